/- WALKS: faults that come from sectors, of the reference and of the program. -/
import Derived.Test.YtlekfoboolemgaaIw
namespace Go.Proofs.Ytlekfoboolemgaa
open Go.RowKit Go.Sort

/-- The fault of a mark. -/
def fAt (xs : List Int) (q : Int) : Nat → Int
  | 0 => 0
  | k + 1 => fAt xs q k + shAt xs (clo xs) k - q
def flt (xs : List Int) (q : Int) (n : Nat) : List Int := (List.range n).map (fun k : Nat => fAt xs q k)
theorem flt_len (xs : List Int) (q : Int) (n : Nat) : (flt xs q n).length = n := by simp [flt]
theorem flt_get (xs : List Int) (q : Int) {n k : Nat} (h : k < n) : (flt xs q n)[k]? = some (fAt xs q k) := by simp [flt, h]
theorem flt_succ (xs : List Int) (q : Int) (n : Nat) : flt xs q (n + 1) = flt xs q n ++ [fAt xs q n] := by simp [flt, List.range_succ]
theorem mulk_bd {k e B : Int} (h0 : 0 ≤ k) (h1 : k ≤ 72) (h2 : -B ≤ e) (h3 : e ≤ B) : -(72 * B) ≤ k * e ∧ k * e ≤ 72 * B := by
  have hB : 0 ≤ B := by omega
  have a := Int.mul_le_mul_of_nonneg_left h3 h0
  have b := Int.mul_le_mul_of_nonneg_left h2 h0
  have c := Int.mul_le_mul_of_nonneg_right h1 hB
  rw [Int.mul_neg] at b
  omega
theorem down_bd' (p q B : Int) (h1 : -B ≤ p) (h2 : p ≤ B) : -B - 1 ≤ downI p q ∧ downI p q ≤ B := by
  have e : (p.tdiv q).natAbs = p.natAbs / q.natAbs := by rw [Int.natAbs_tdiv]; rfl
  have := Nat.div_le_self p.natAbs q.natAbs
  unfold downI
  split <;> omega
theorem shAt_bd {xs : List Int} (h1 : 1 ≤ xs.length) (h2 : xs.length ≤ 72) (h3 : xs.all okSec = true) {k : Nat} (hk : k < xs.length) : -90000000000000 ≤ shAt xs (clo xs) k ∧ shAt xs (clo xs) k ≤ 90000000000000 := by
  have hb := clo_bd xs xs.length h3 (Nat.le_refl _)
  rw [List.take_length] at hb
  obtain ⟨p, hp⟩ : ∃ p, xs[k]? = some p := ⟨xs[k], List.getElem?_eq_getElem _⟩
  have hx := allI_get hp h3
  unfold okSec at hx
  simp only [Bool.and_eq_true, decide_eq_true_eq] at hx
  have a := mulk_bd (k := (k : Int) + 1) (e := clo xs) (B := 100000000) (by omega) (by omega) (by omega) (by omega)
  have b := mulk_bd (k := (k : Int)) (e := clo xs) (B := 100000000) (by omega) (by omega) (by omega) (by omega)
  have c := down_bd' _ (xs.length : Int) 7200000000 (by omega) a.2
  have d := down_bd' _ (xs.length : Int) 7200000000 (by omega) b.2
  unfold shAt
  rw [List.getD_eq_getElem?_getD, hp]
  simp only [Option.getD_some]
  omega
theorem fAt_bd {xs : List Int} {q : Int} (h1 : 1 ≤ xs.length) (h2 : xs.length ≤ 72) (h3 : xs.all okSec = true) (q1 : 0 ≤ q) (q2 : q ≤ 1296000) : ∀ k, k ≤ xs.length → -100000000000000 * (k : Int) ≤ fAt xs q k ∧ fAt xs q k ≤ 100000000000000 * (k : Int)
  | 0, _ => by simp [fAt]
  | k + 1, hk => by
    have h := fAt_bd h1 h2 h3 q1 q2 k (by omega)
    have hs := shAt_bd h1 h2 h3 (show k < xs.length by omega)
    simp only [fAt]
    push_cast
    omega

def divB (n : Int) : Bool := (decide (1 ≤ n) && decide (n ≤ 72)) && ((1296000 : Int) % n == 0)
set_option maxRecDepth 20000 in
set_option maxHeartbeats 400000 in
theorem idiv (n : Int) (w : World) : Calls Try.prog 58 #[.int .i64 n] w fun e w' => e = .returned (.bool (divB n)) ∧ w = w' := by
  unfold divB
  by_cases h1 : 1 ≤ n
  · by_cases h2 : n ≤ 72
    · have hz : n ≠ 0 := by omega
      go_enter Try.func58, Try.ntmps58
      go_wp2
      go_ret
      exact ⟨ret_bool (by simp [h1, h2]), rfl⟩
    · have e : decide (n ≤ 72) = false := by simpa using h2
      rw [e]
      go_enter Try.func58, Try.ntmps58
      go_wp2
      go_ret
      exact ⟨ret_bool (by simp), rfl⟩
  · have e : decide (1 ≤ n) = false := by simpa using h1
    rw [e]
    go_enter Try.func58, Try.ntmps58
    go_wp2
    go_ret
    exact ⟨ret_bool (by simp), rfl⟩
theorem q_bd {n : Int} (h : 1 ≤ n) : 0 ≤ (1296000 : Int) / n ∧ (1296000 : Int) / n ≤ 1296000 :=
  ⟨Int.ediv_nonneg (by omega) (by omega), Int.ediv_le_self _ (by omega)⟩

set_option maxRecDepth 20000 in
set_option maxHeartbeats 1000000 in
theorem sFaults_no (A : Option Addr) (c : Nat) (xs : List Int) (w : World) (X : Hid (RdI w A xs)) (hn : xs.length ≤ 1048576) (h : secB xs = false) :
    Calls Try.prog 45 #[.slice A xs.length c] w fun e w' => GivesI w w' e [] 2 := by
  go_enter Try.func45, Try.ntmps45
  go_wp2_with fail
  refine (sSectors_no A c xs _ X hn h).mono ?_
  rintro e w1 ⟨rfl, hg1⟩
  have G1 := hid (hg1)
  clear hg1
  go_wp2_with fail
  go_ret2
  exact ⟨_, _, rfl, World.ownsRow_made _ #[] 0 G1.out.size (by simp [maxLen]) (by simp), G1.out.al _⟩
set_option maxRecDepth 20000 in
set_option maxHeartbeats 1000000 in
theorem sFaults_st (A : Option Addr) (c : Nat) (xs : List Int) (w : World) (X : Hid (RdI w A xs)) (h : secB xs = true) (hd : ((1296000 : Int) % (xs.length : Int) == 0) = false) :
    Calls Try.prog 45 #[.slice A xs.length c] w fun e w' => GivesI w w' e [] 4 := by
  have H := hid h
  obtain ⟨h1, h2, _⟩ := sec_parts h
  have hz : ((xs.length : Nat) : Int) ≠ 0 := by omega
  have hd2 : ((1296000 : Int) % (xs.length : Int) != 0) = true := by simpa using hd
  clear h
  go_enter Try.func45, Try.ntmps45
  go_wp2_with fail
  refine (sSectors_yes A c xs _ X H.out).mono ?_
  rintro e w1 ⟨rfl, hg1⟩
  have G1 := hid (hg1)
  clear hg1
  go_wp2_with fail
  go_ret2
  exact ⟨_, _, rfl, World.ownsRow_made _ #[] 0 G1.out.size (by simp [maxLen]) (by simp), G1.out.al _⟩
set_option maxRecDepth 20000 in
set_option maxHeartbeats 1000000 in
theorem sFaults_yes (A : Option Addr) (c : Nat) (xs : List Int) (w : World) (X : Hid (RdI w A xs)) (h : secB xs = true) (hd : ((1296000 : Int) % (xs.length : Int) == 0) = true) :
    Calls Try.prog 45 #[.slice A xs.length c] w fun e w' => GivesI w w' e (flt xs ((1296000 : Int) / (xs.length : Int)) xs.length) 0 := by
  have H := hid h
  obtain ⟨h1, h2, h3⟩ := sec_parts h
  have hz : ((xs.length : Nat) : Int) ≠ 0 := by omega
  have hd2 : ((1296000 : Int) % (xs.length : Int) != 0) = false := by simpa using hd
  obtain ⟨i0, hi, hz0, hz1, hz2⟩ : ∃ i, Try.prog.info? 2 = some i ∧ i.zero = some (.int .i64 0) ∧ i.size = 1 ∧ i.bytes = 8 := ⟨_, rfl, rfl, rfl, rfl⟩
  obtain ⟨q1, q2⟩ := q_bd (n := (xs.length : Int)) (by omega)
  have H3 := hid h3
  clear h h3
  go_enter Try.func45, Try.ntmps45
  go_wp2_with fail
  refine (sSectors_yes A c xs _ X H.out).mono ?_
  rintro e w1 ⟨rfl, hg1⟩
  have G1 := hid (hg1)
  clear hg1
  go_wp2_with fail
  refine (sShared A c xs _ (hid (X.out.keep G1.out)) H.out).mono ?_
  rintro e w2 ⟨As, cs, rfl, own, hg2⟩
  have SH := hid (RdI.of_own own); have G2 := hid (G1.out.trans hg2)
  clear own hg2
  rw [shr_len]
  go_wp2_with fail
  go_loopw [7, 8] (fun v u wr => ∃ (k : Nat) (A' : Option Addr) (c' : Nat), u = .int .i64 ((k : Int) + 1) ∧ v = .slice A' (k + 1) c' ∧ k + 1 ≤ xs.length ∧ Gr w2 wr ∧ wr.ownsRow w2.heap.size 2 1 (.slice A' (k + 1) c') (k + 1) ((flt xs ((1296000 : Int) / (xs.length : Int)) (k + 1)).map (.int .i64 ·))) (fun _ u _ => xs.length - (intOf u).toNat)
  case atStart =>
    refine ⟨0, _, _, rfl, rfl, by omega, (Gr.refl _).al _, ?_⟩
    exact own_close (ys := [0]) (rest := []) (Nat.le_refl _) (alloc1 (Gr.refl _)).1 (by simp [maxLen]) (by simp)
  case round =>
    obtain ⟨k, A', c', rfl, rfl, hk, hg, hown⟩ := hrel
    have HG := hid hg
    by_cases hlt : k + 1 < xs.length
    · obtain ⟨ad1, rfl, c1⟩ := (SH.out.keep hg) k _ (shr_get xs (by omega))
      obtain ⟨ad2, rfl, c2⟩ := (RdI.of_own (xs := flt xs ((1296000 : Int) / (xs.length : Int)) (k + 1)) (by simpa [flt_len] using hown)) k _ (flt_get xs _ (by omega))
      have OWN := hid hown
      have b1 := shAt_bd h1 h2 H3.out (show k < xs.length by omega)
      have b2 := fAt_bd h1 h2 H3.out q1 q2 k (by omega)
      obtain ⟨_, _⟩ := b1
      obtain ⟨_, _⟩ := b2
      clear hg hown
      go_wp2_with fail
      refine wp_regA (b0 := .cells #[.int .i64 (fAt xs ((1296000 : Int) / (xs.length : Int)) (k + 1))] 2) (fun b => .slice (some ⟨b, 0, none⟩) 1 1) 16 15 44 (by kernel_rfl) (by kernel_rfl) rfl rfl (by simp) ?_
      apply Exists.intro
      refine ⟨fun wb hb => ?_, fun w' => ?_, ?_⟩
      · have _ := hb.atA c1
        have _ := hb.atA c2
        simp only [headOps, List.contains, List.elem, Nat.reduceAdd, Nat.reduceBEq, reduceIte, Bool.false_eq_true, dumOp]
        repeat (first | go_big_quiet_step (first | (fail)) | quiet_step (fail))
        exact wpQuiet_nil rfl
      · show _ = Result.ok _ (w'.alloc (.cells #[.int .i64 (fAt xs ((1296000 : Int) / (xs.length : Int)) k + shAt xs (clo xs) k - (1296000 : Int) / (xs.length : Int))] 2))
        kernel_rfl
      intro w3 b hg1 hb1 xb
      have OWN1 := hid (own_gr OWN.out hg1)
      have NEW := hid (one_news xb)
      have G3 := hid (HG.out.trans hg1)
      have hsz := G3.out.size
      clear hg1 hb1 xb c1 c2 OWN
      simp only [List.drop_succ_cons, List.drop_zero]
      refine (wpList_append_gr rfl _ _ 48 rfl w2.heap.size 2 i0 (.int .i64 0) 1 8 Try.underlying48 hi hz0 hz1 hz2 rfl (by decide) _ (k + 1) _ rfl OWN1.out ⟨b, 0, none⟩ 1 1 [.int .i64 (fAt xs ((1296000 : Int) / (xs.length : Int)) (k + 1))] rfl rfl NEW.out (by simp [Value.oneCell']) (by decide) (by unfold maxLen; omega) (by omega) hsz ?_)
      intro v' w4 own2 _ _ hgr
      obtain ⟨A2, c2, rfl⟩ := own_form own2
      have e2 : (((flt xs ((1296000 : Int) / (xs.length : Int)) (k + 1))).map (Value.int .i64 ·)) ++ [.int .i64 (fAt xs ((1296000 : Int) / (xs.length : Int)) (k + 1))] = ((flt xs ((1296000 : Int) / (xs.length : Int)) (k + 1 + 1))).map (Value.int .i64 ·) := by rw [flt_succ xs _ (k + 1)]; simp
      rw [e2] at own2
      have OWN2 := hid own2
      have G4 := hid (hgr w2 G3.out (Nat.le_refl _))
      clear own2 hgr e2 OWN1 NEW hsz
      go_wp2_with fail
      exact ⟨⟨k + 1, A2, c2, by simp, by simp, by omega, G4.out, OWN2.out⟩, by simp [intOf]; omega⟩
    · have hke : k + 1 = xs.length := by omega
      have OWN := hid hown
      clear hg hown
      go_wp2_with fail
      go_ret2
      have h := OWN.out
      rw [hke] at h
      refine ⟨A', c', ?_, ?_, G2.out.trans HG.out⟩
      · rw [flt_len, ← hke]; rfl
      · rw [flt_len]; exact own_base h G2.out.size

set_option maxRecDepth 20000 in
set_option maxHeartbeats 1000000 in
theorem iFaults_no (A : Option Addr) (c : Nat) (xs : List Int) (w : World) (X : Hid (RdI w A xs)) (hn : xs.length ≤ 1048576) (h : secB xs = false) :
    Calls Try.prog 46 #[.slice A xs.length c] w fun e w' => GivesI w w' e [] 2 := by
  go_enter Try.func46, Try.ntmps46
  go_wp2_with fail
  refine (iShare_no A c xs _ X hn h).mono ?_
  rintro e w1 ⟨A1, c1, rfl, _, hg1⟩
  have G1 := hid hg1; clear hg1
  go_wp2_with fail
  go_ret2
  exact ⟨none, 0, rfl, World.ownsRow_nil _ _ _ _, G1.out⟩
set_option maxRecDepth 20000 in
set_option maxHeartbeats 1000000 in
theorem iFaults_st (A : Option Addr) (c : Nat) (xs : List Int) (w : World) (X : Hid (RdI w A xs)) (h : secB xs = true) (hd : ((1296000 : Int) % (xs.length : Int) == 0) = false) :
    Calls Try.prog 46 #[.slice A xs.length c] w fun e w' => GivesI w w' e [] 4 := by
  have H := hid h
  obtain ⟨h1, h2, _⟩ := sec_parts h
  have hdv : divB (xs.length : Int) = false := by unfold divB; rw [hd]; simp
  clear h
  go_enter Try.func46, Try.ntmps46
  go_wp2_with fail
  refine (iShare_yes A c xs _ X H.out).mono ?_
  rintro e w1 ⟨A1, c1, rfl, _, hg1⟩
  have G1 := hid hg1; clear hg1
  rw [shr_len]
  go_wp2_with (go_at_call 58; refine (idiv _ _).mono ?_; rintro e w2 ⟨rfl, rfl⟩; rw [hdv])
  go_ret2
  exact ⟨none, 0, rfl, World.ownsRow_nil _ _ _ _, G1.out⟩
set_option maxRecDepth 20000 in
set_option maxHeartbeats 1000000 in
theorem iFaults_yes (A : Option Addr) (c : Nat) (xs : List Int) (w : World) (X : Hid (RdI w A xs)) (h : secB xs = true) (hd : ((1296000 : Int) % (xs.length : Int) == 0) = true) :
    Calls Try.prog 46 #[.slice A xs.length c] w fun e w' => GivesI w w' e (flt xs ((1296000 : Int) / (xs.length : Int)) xs.length) 0 := by
  have H := hid h
  obtain ⟨h1, h2, h3⟩ := sec_parts h
  have hdv : divB (xs.length : Int) = true := by unfold divB; rw [hd]; simp; omega
  have hz : ((xs.length : Nat) : Int) ≠ 0 := by omega
  obtain ⟨i0, hi, hz0, hz1, hz2⟩ : ∃ i, Try.prog.info? 2 = some i ∧ i.zero = some (.int .i64 0) ∧ i.size = 1 ∧ i.bytes = 8 := ⟨_, rfl, rfl, rfl, rfl⟩
  obtain ⟨q1, q2⟩ := q_bd (n := (xs.length : Int)) (by omega)
  have H3 := hid h3
  clear h h3
  go_enter Try.func46, Try.ntmps46
  go_wp2_with fail
  refine (iShare_yes A c xs _ X H.out).mono ?_
  rintro e w2 ⟨As, cs, rfl, own, hg2⟩
  have SH := hid (RdI.of_own own); have G2 := hid hg2
  have hcs : xs.length ≤ cs := by
    rcases own.2 with ⟨hv, hn0⟩ | ⟨g, cap, cur, hv, _, _, hnc, _⟩
    · rw [shr_len] at hn0; omega
    · injection hv with _ _ e3; rw [shr_len] at hnc; omega
  clear own hg2
  rw [shr_len]
  go_wp2_with (go_at_call 58; refine (idiv _ _).mono ?_; rintro e w3 ⟨rfl, rfl⟩; rw [hdv])
  go_loopw [7, 29] (fun v u wr => ∃ (k : Nat) (A' : Option Addr) (c' : Nat), u = .int .i64 (k : Int) ∧ v = .slice A' (k + 1) c' ∧ k + 1 ≤ xs.length ∧ Gr w2 wr ∧ wr.ownsRow w2.heap.size 2 1 (.slice A' (k + 1) c') (k + 1) ((flt xs ((1296000 : Int) / (xs.length : Int)) (k + 1)).map (.int .i64 ·))) (fun _ u _ => xs.length - (intOf u).toNat)
  case atStart =>
    refine ⟨0, _, _, rfl, rfl, by omega, (Gr.refl _).al _, ?_⟩
    exact own_close (ys := [0]) (rest := []) (Nat.le_refl _) (alloc1 (Gr.refl _)).1 (by simp [maxLen]) (by simp)
  case round =>
    obtain ⟨k, A', c', rfl, rfl, hk, hg, hown⟩ := hrel
    have HG := hid hg
    by_cases hlt : k < xs.length - 1
    · obtain ⟨ad1, rfl, c1⟩ := (SH.out.keep hg) k _ (shr_get xs (by omega))
      obtain ⟨ad2, rfl, c2⟩ := (RdI.of_own (xs := flt xs ((1296000 : Int) / (xs.length : Int)) (k + 1)) (by simpa [flt_len] using hown)) k _ (flt_get xs _ (by omega))
      have OWN := hid hown
      have b1 := shAt_bd h1 h2 H3.out (show k < xs.length by omega)
      have b2 := fAt_bd h1 h2 H3.out q1 q2 k (by omega)
      obtain ⟨_, _⟩ := b1
      obtain ⟨_, _⟩ := b2
      clear hg hown
      go_wp2_with fail
      refine wp_regA (b0 := .cells #[.int .i64 (fAt xs ((1296000 : Int) / (xs.length : Int)) (k + 1))] 2) (fun b => .slice (some ⟨b, 0, none⟩) 1 1) 11 10 44 (by kernel_rfl) (by kernel_rfl) rfl rfl (by simp) ?_
      apply Exists.intro
      refine ⟨fun wb hb => ?_, fun w' => ?_, ?_⟩
      · have _ := hb.atA c1
        have _ := hb.atA c2
        simp only [headOps, List.contains, List.elem, Nat.reduceAdd, Nat.reduceBEq, reduceIte, Bool.false_eq_true, dumOp]
        repeat (first | go_big_quiet_step (first | (fail)) | quiet_step (fail))
        exact wpQuiet_nil rfl
      · show _ = Result.ok _ (w'.alloc (.cells #[.int .i64 (fAt xs ((1296000 : Int) / (xs.length : Int)) k + shAt xs (clo xs) k - (1296000 : Int) / (xs.length : Int))] 2))
        kernel_rfl
      intro w3 b hg1 hb1 xb
      have OWN1 := hid (own_gr OWN.out hg1)
      have NEW := hid (one_news xb)
      have G3 := hid (HG.out.trans hg1)
      have hsz := G3.out.size
      clear hg1 hb1 xb c1 c2 OWN
      simp only [List.drop_succ_cons, List.drop_zero]
      refine (wpList_append_gr rfl _ _ 48 rfl w2.heap.size 2 i0 (.int .i64 0) 1 8 Try.underlying48 hi hz0 hz1 hz2 rfl (by decide) _ (k + 1) _ rfl OWN1.out ⟨b, 0, none⟩ 1 1 [.int .i64 (fAt xs ((1296000 : Int) / (xs.length : Int)) (k + 1))] rfl rfl NEW.out (by simp [Value.oneCell']) (by decide) (by unfold maxLen; omega) (by omega) hsz ?_)
      intro v' w4 own2 _ _ hgr
      obtain ⟨A2, c2, rfl⟩ := own_form own2
      have e2 : (((flt xs ((1296000 : Int) / (xs.length : Int)) (k + 1))).map (Value.int .i64 ·)) ++ [.int .i64 (fAt xs ((1296000 : Int) / (xs.length : Int)) (k + 1))] = ((flt xs ((1296000 : Int) / (xs.length : Int)) (k + 1 + 1))).map (Value.int .i64 ·) := by rw [flt_succ xs _ (k + 1)]; simp
      rw [e2] at own2
      have OWN2 := hid own2
      have G4 := hid (hgr w2 G3.out (Nat.le_refl _))
      clear own2 hgr e2 OWN1 NEW hsz
      go_wp2_with fail
      exact ⟨⟨k + 1, A2, c2, by simp, by simp, by omega, G4.out, OWN2.out⟩, by simp [intOf]; omega⟩
    · have hke : k + 1 = xs.length := by omega
      have OWN := hid hown
      clear hg hown
      go_wp2_with fail
      go_ret2
      have h := OWN.out
      rw [hke] at h
      refine ⟨A', c', ?_, ?_, G2.out.trans HG.out⟩
      · rw [flt_len, ← hke]; rfl
      · rw [flt_len]; exact own_base h G2.out.size
theorem bothFaultsFrom (xs : List Int) (hn : xs.length ≤ 1048576) : ∃ (ys : List Int) (C : Int), ys.length ≤ 1048576 ∧
    (∀ (A : Option Addr) (c : Nat) (w : World), Hid (RdI w A xs) → Calls Try.prog 45 #[.slice A xs.length c] w fun e w' => GivesI w w' e ys C) ∧
    (∀ (A : Option Addr) (c : Nat) (w : World), Hid (RdI w A xs) → Calls Try.prog 46 #[.slice A xs.length c] w fun e w' => GivesI w w' e ys C) := by
  cases h : secB xs with
  | true =>
    cases hd : ((1296000 : Int) % (xs.length : Int) == 0) with
    | true => exact ⟨_, 0, by rw [flt_len]; exact hn, fun A c w X => sFaults_yes A c xs w X h hd, fun A c w X => iFaults_yes A c xs w X h hd⟩
    | false => exact ⟨[], 4, by simp, fun A c w X => sFaults_st A c xs w X h hd, fun A c w X => iFaults_st A c xs w X h hd⟩
  | false => exact ⟨[], 2, by simp, fun A c w X => sFaults_no A c xs w X hn h, fun A c w X => iFaults_no A c xs w X hn h⟩
end Go.Proofs.Ytlekfoboolemgaa
