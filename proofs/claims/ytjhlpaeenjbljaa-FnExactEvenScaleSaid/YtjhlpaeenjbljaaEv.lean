/- SCALES: slices.Repeat of one fraction. -/
import Derived.Test.YtjhlpaeenjbljaaEf
import Derived.Laws.CopyRow
import Derived.Laws.Bits64b
import Derived.Deep.RegionLaw
namespace Go.Proofs.Ytjhlpaeenjbljaa
open Go.RowKit Go.Sort

theorem run_copy_two {P : Program} (w : World) (dT sT ty elem : TypeId) (g o dLen dCap : Nat) (a : Addr) (sLen sCap : Nat) (cur : Array Value) (t : TypeId) (cs : List Value)
    (hu : P.underlying dT = some (.slice elem)) (hs : (P.info? elem).map (·.size) = some 2)
    (hg : w.heap[g]? = some (.cells cur t)) (hn : cs.length = Nat.min sLen dLen * 2)
    (hsrc : ∀ j v, cs[j]? = some v → w.cell? (a.add j) = some v) (hfit : o + cs.length ≤ cur.size) (h1 : ∀ v ∈ cs, v.oneCell' = true) :
    (Builtin.copy_ #[dT, sT] ty #[.slice (some ⟨g, o, none⟩) dLen dCap, .slice (some a) sLen sCap]).run P w =
      .ok (goInt (Nat.min sLen dLen)) (w.setRow g (cur.toList.take o ++ cs ++ cur.toList.drop (o + cs.length)).toArray) := by
  have hl := run_loadCells_list (P := P) w a cs hsrc
  have hst := run_storeCells_at P g o t cs 0 cur w hg (by simpa using hfit) h1
  cases hq : P.info? elem with
  | none => simp [hq] at hs
  | some i =>
    have hi : i.size = 2 := by simpa [hq] using hs
    rw [hn] at hl
    simp [Builtin.copy_, run_underlying hu, Builtin.lenOf, Builtin.firstCells, sizeOf, typeInfo, hq, hi, hl, hst]
theorem step_copy_two {P : Program} {ops : Array Oper} {o : Oper} {a : Act} {w : World} {K : Act → World → Prop} {Q : Exit → Act → World → Prop} {E : Prop} (hgd : o.guard = none) (d s : Operand) (dT sT : TypeId)
    (ho : o.op = .call { callee := .builtin .copy, args := #[d, s], argTypes := #[dT, sT] }) (elem : TypeId) (hu : P.underlying dT = some (.slice elem)) (hsz : (P.info? elem).map (·.size) = some 2)
    (g off dLen dCap : Nat) (ad : Addr) (sLen sCap : Nat) (hd : a.eval d = .slice (some ⟨g, off, none⟩) dLen dCap) (hs : a.eval s = .slice (some ad) sLen sCap)
    (cur : Array Value) (t : TypeId) (hg : w.heap[g]? = some (.cells cur t)) (cs : List Value) (m : Nat) (hm : m = Nat.min sLen dLen) (hn : cs.length = m * 2)
    (hsrc : ∀ j v, cs[j]? = some v → w.cell? (ad.add j) = some v) (hfit : off + cs.length ≤ cur.size) (h1 : ∀ v ∈ cs, v.oneCell' = true)
    (new : Array Value) (hnew : (cur.toList.take off ++ cs ++ cur.toList.drop (off + cs.length)).toArray = new)
    (h : ∀ w', Hid (w'.heap[g]? = some (.cells new t)) → (∀ W0, Gr W0 w → W0.heap.size ≤ g → Gr W0 w') → K (a.put o.dst (goInt m)) w') :
    if Region.wanted o (yielded ops a.tmps) = true then Oper.wp P o a w K Q else E := by
  have hw : Region.wanted o (yielded ops a.tmps) = true := by simp [Region.wanted, hgd]
  rw [if_pos hw]
  subst hm
  have hrun := run_copy_two (P := P) w dT sT o.type elem g off dLen dCap ad sLen sCap cur t cs hu hsz hg hn hsrc hfit h1
  unfold Oper.wp
  simp [execOp, ho, resolve, invoke, builtin, hd, hs, hrun, Result.andThen]
  refine h _ (show _ = _ by rw [← hnew]; simpa using setRow_heap w g _ _ t _ hg) fun W0 h0 hz => h0.setRow hz _
theorem wpList_copy_two {P : Program} {w : World} {ops : Array Oper} {rest : List Oper} {o : Oper} {a : Act} {Q : Exit → Act → World → Prop} (hgd : o.guard = none) (d s : Operand) (dT sT : TypeId)
    (ho : o.op = .call { callee := .builtin .copy, args := #[d, s], argTypes := #[dT, sT] }) (elem : TypeId) (hu : P.underlying dT = some (.slice elem)) (hsz : (P.info? elem).map (·.size) = some 2)
    (g off dLen dCap : Nat) (ad : Addr) (sLen sCap : Nat) (hd : a.eval d = .slice (some ⟨g, off, none⟩) dLen dCap) (hs : a.eval s = .slice (some ad) sLen sCap)
    (cur : Array Value) (t : TypeId) (hg : w.heap[g]? = some (.cells cur t)) (cs : List Value) (m : Nat) (hm : m = Nat.min sLen dLen) (hn : cs.length = m * 2)
    (hsrc : ∀ j v, cs[j]? = some v → w.cell? (ad.add j) = some v) (hfit : off + cs.length ≤ cur.size) (h1 : ∀ v ∈ cs, v.oneCell' = true)
    (new : Array Value) (hnew : (cur.toList.take off ++ cs ++ cur.toList.drop (off + cs.length)).toArray = new)
    (h : ∀ w', Hid (w'.heap[g]? = some (.cells new t)) → (∀ W0, Gr W0 w → W0.heap.size ≤ g → Gr W0 w') → wpList P ops Q rest (a.put o.dst (goInt m)) w') : wpList P ops Q (o :: rest) a w := by
  refine wpList_plain hgd fun K hK => ?_
  subst hm
  have hrun := run_copy_two (P := P) w dT sT o.type elem g off dLen dCap ad sLen sCap cur t cs hu hsz hg hn hsrc hfit h1
  unfold Oper.wp
  simp [execOp, ho, resolve, invoke, builtin, hd, hs, hrun, Result.andThen]
  refine hK _ _ (h _ (show _ = _ by rw [← hnew]; simpa using setRow_heap w g _ _ t _ hg) fun W0 h0 hz => h0.setRow hz _)
set_option maxHeartbeats 1000000 in
theorem mul64_one (n : Nat) (hn : n ≤ 60) (w : World) : Calls Try.prog 144 #[.int .u64 1, .int .u64 (n : Int)] w fun e w' => e = .returned (.tuple #[.int .u64 0, .int .u64 (n : Int)]) ∧ w = w' := by
  have m1 : bits .and .u64 1 4294967295 = 1 := by decide +kernel
  have m0 : bits .and .u64 0 4294967295 = 0 := by decide +kernel
  have m2 : bits .and .u64 (n : Int) 4294967295 = (n : Int) := by
    have h := bits_and_u64_nat n 4294967295 (by omega) (by omega)
    rw [show n &&& 4294967295 = n % 4294967296 from Nat.and_two_pow_sub_one_eq_mod n 32, Nat.mod_eq_of_lt (by omega)] at h
    exact h
  have d1 : (n : Int) / 4294967296 = 0 := by omega
  have hw : IntKind.u64.wrap (n : Int) = n := by rw [IntKind.wrap_u64]; omega
  go_enter Try.func144, Try.ntmps144
  go_wp2_with fail
  go_ret2
  exact ⟨rfl, rfl⟩
set_option maxHeartbeats 1000000 in
theorem mul_one (n : Nat) (hn : n ≤ 60) (w : World) : Calls Try.prog 109 #[.int .u64 1, .int .u64 (n : Int)] w fun e w' => e = .returned (.tuple #[.int .u64 0, .int .u64 (n : Int)]) ∧ w = w' := by
  go_enter Try.func109, Try.ntmps109
  go_wp2_with (go_at_call 144; refine (mul64_one n hn _).mono ?_; rintro e w1 ⟨rfl, rfl⟩)
  go_ret2
  exact ⟨rfl, rfl⟩
/-- So many fractions, the first ones of which are 0. -/
def repV (k m : Nat) : List (Int × Int) := List.replicate k (0, 1) ++ List.replicate m (0, 0)
theorem repV_len (k m : Nat) : (repV k m).length = k + m := by simp [repV]
theorem flatL_ints (xs : List (Int × Int)) : ∀ v ∈ flatL xs, v.oneCell' = true := by
  intro v hv
  unfold flatL at hv
  rw [List.mem_flatMap] at hv
  obtain ⟨x, _, hx⟩ := hv
  simp at hx
  rcases hx with rfl | rfl <;> rfl
theorem flatL_join (xs ys : List (Int × Int)) : flatL (xs ++ ys) = flatL xs ++ flatL ys := by simp [flatL]
theorem repV_copy (k m j : Nat) (h : j ≤ m) : ((flatA (repV k m)).toList.take (k * 2) ++ flatL (List.replicate j (0, 1)) ++ (flatA (repV k m)).toList.drop (k * 2 + (flatL (List.replicate j ((0 : Int), (1 : Int)))).length)).toArray = flatA (repV (k + j) (m - j)) := by
  have e : List.replicate m ((0 : Int), (0 : Int)) = List.replicate j (0, 0) ++ List.replicate (m - j) (0, 0) := by rw [List.replicate_append_replicate, show j + (m - j) = m by omega]
  have e1 : (flatA (repV k m)).toList = flatL (List.replicate k (0, 1)) ++ (flatL (List.replicate j (0, 0)) ++ flatL (List.replicate (m - j) (0, 0))) := by
    unfold flatA repV
    rw [e, flatL_join, flatL_join]
  have e2 : flatL (repV (k + j) (m - j)) = flatL (List.replicate k (0, 1)) ++ flatL (List.replicate j (0, 1)) ++ flatL (List.replicate (m - j) (0, 0)) := by
    unfold repV
    rw [flatL_join, ← List.replicate_append_replicate, flatL_join]
  rw [e1, List.take_left' (by rw [flatL_len]; simp), ← List.append_assoc (flatL (List.replicate k (0, 1))) (flatL (List.replicate j (0, 0))), List.drop_left' (by rw [List.length_append, flatL_len, flatL_len, flatL_len]; simp)]
  unfold flatA
  rw [e2]
theorem repV_src {w : World} {g k m j : Nat} {T : TypeId} (h : w.heap[g]? = some (.cells (flatA (repV k m)) T)) (hj : j ≤ k) : ∀ i v, (flatL (List.replicate j ((0 : Int), (1 : Int))))[i]? = some v → w.cell? ((⟨g, 0, none⟩ : Addr).add i) = some v := by
  intro i v hv
  have hl := (List.getElem?_eq_some_iff.1 hv).1
  have e : flatL (repV k m) = flatL (List.replicate j (0, 1)) ++ (flatL (List.replicate (k - j) (0, 1)) ++ flatL (List.replicate m (0, 0))) := by
    unfold repV
    rw [flatL_join, show k = j + (k - j) by omega, ← List.replicate_append_replicate, flatL_join, show j + (k - j) - j = k - j by omega, List.append_assoc]
  rw [add_at]
  have : (flatA (repV k m))[i]? = some v := by
    show (flatL (repV k m)).toArray[i]? = _
    rw [e, List.getElem?_toArray, List.getElem?_append_left hl, hv]
  simp [World.cell?, h, this]
theorem tailF (g n k : Nat) (hk : k < n) (w : World) : (Instr.sliceAt 25 (.slice (some ⟨g, 0, none⟩) n n) (some (.int .i64 (k : Int))) none none).run Try.prog w = .ok (.slice (some ⟨g, k * 2, none⟩) (n - k) (n - k)) w := by
  have hsz : ∀ w, (sizeOf (Try.prog.elem 25)).run Try.prog w = .ok 2 w := fun w => by kernel_rfl
  have ht : Try.prog.underlying 25 = some (.slice (Try.prog.elem 25)) := by kernel_rfl
  rw [run_sliceAt_slice w 25 _ _ _ _ ht, run_slice_l w 25 _ _ _ ht .i64 _ (by omega) (by omega), hsz]
  have e2 : ¬ n = k := by omega
  simp [Result.andThen, sliced, add_at, e2]
theorem headFs (g n k : Nat) (hk : k ≤ n) (w : World) : (Instr.sliceAt 25 (.slice (some ⟨g, 0, none⟩) n n) none (some (.int .i64 (k : Int))) none).run Try.prog w = .ok (.slice (some ⟨g, 0, none⟩) k n) w := by
  have hsz : ∀ w, (sizeOf (Try.prog.elem 25)).run Try.prog w = .ok 2 w := fun w => by kernel_rfl
  have ht : Try.prog.underlying 25 = some (.slice (Try.prog.elem 25)) := by kernel_rfl
  rw [run_sliceAt_slice w 25 _ _ _ _ ht, run_slice_h w 25 _ _ _ ht .i64 _ (by omega) (by omega), hsz]
  simp [Result.andThen, sliced, add_at]
set_option maxRecDepth 20000 in
set_option maxHeartbeats 2000000 in
theorem iRepeatF (g n : Nat) (T : TypeId) (w : World) (X : Hid (w.heap[g]? = some (.cells (flatA [(0, 1)]) T))) (_h2 : 2 ≤ n) (hn : n ≤ 60) :
    Calls Try.prog 59 #[.slice (some ⟨g, 0, none⟩) 1 1, .int .i64 (n : Int)] w fun e w' => ∃ b, e = .returned (.slice (some ⟨b, 0, none⟩) n n) ∧ w.heap.size ≤ b ∧ w'.heap[b]? = some (.cells (flatA (repV n 0)) 24) ∧ Gr w w' := by
  have hmk := make_fracs n (by omega)
  have hA : Hid ((w.alloc (.cells (flatA (List.replicate n (0, 0))) 24)).heap[w.heap.size]? = some (.cells (flatA (repV 0 n)) 24)) := hid (by simpa [repV] using (alloc1 (Gr.refl (w.alloc (.cells (flatA (List.replicate n (0, 0))) 24)))).1)
  have hS : Hid (∀ i v, (flatL (List.replicate 1 ((0 : Int), (1 : Int))))[i]? = some v → (w.alloc (.cells (flatA (List.replicate n (0, 0))) 24)).cell? ((⟨g, 0, none⟩ : Addr).add i) = some v) :=
    hid (repV_src (k := 1) (m := 0) (j := 1) (by simpa [repV] using ((Gr.refl w).al _).keep X.out) (Nat.le_refl _))
  have w1 : IntKind.u64.wrap (n : Int) = (n : Int) := by rw [IntKind.wrap_u64]; omega
  go_enter Try.func59, Try.ntmps59
  go_wp2_with (first
    | (go_at_call 109; refine (mul_one n hn _).mono ?_; rintro e w1 ⟨rfl, rfl⟩)
    | (refine wpList_copy_two rfl (.tmp 31) (.tmp 32) 25 25 rfl 24 rfl rfl w.heap.size 0 n n ⟨g, 0, none⟩ 1 1 rfl rfl _ _ hA.out (flatL (List.replicate 1 (0, 1))) 1 (by simp [Nat.min_def]; omega) (by simp [flatL]) hS.out (by simp [flatL, flatA, repV]; omega) (flatL_ints _) _ (repV_copy 0 n 1 (by omega)) ?_; intro w2 h2 hgr))
  have X2 := hid h2.out; have G2 := hid (hgr w ((Gr.refl w).al _) (Nat.le_refl _))
  clear hmk hA hS w1 h2 hgr X
  go_loopw [8] (fun u wr => ∃ (k : Nat), u = .int .i64 (k : Int) ∧ 0 < k ∧ k ≤ n ∧ Gr w wr ∧ wr.heap[w.heap.size]? = some (.cells (flatA (repV k (n - k))) 24)) (fun u _ => n - (intOf u).toNat)
  case atStart => exact ⟨1, rfl, by omega, by omega, G2.out, by simpa using X2.out⟩
  case round =>
    obtain ⟨k, rfl, hk0, hk, g, x0⟩ := hrel
    have GW := hid g; have X0 := hid x0
    clear g x0 X2 G2
    by_cases hlt : k < n
    · have s1 := tailF w.heap.size n k hlt
      have s2 := headFs w.heap.size n k hk
      obtain ⟨m, hm⟩ : ∃ m, m = Nat.min k (n - k) := ⟨_, rfl⟩
      have hmk : m ≤ k := by rw [hm]; exact Nat.min_le_left _ _
      have hmn : m ≤ n - k := by rw [hm]; exact Nat.min_le_right _ _
      have hm0 : 0 < m := by rw [hm]; exact Nat.lt_min.2 ⟨hk0, by omega⟩
      have HM := hid hm
      clear hm
      have XD : Hid (wr.drew.heap[w.heap.size]? = some (.cells (flatA (repV k (n - k))) 24)) := hid ((Gr.drew wr).keep X0.out)
      have SD := hid (repV_src XD.out hmk)
      have LD : Hid ((flatL (List.replicate m ((0 : Int), (1 : Int)))).length = m * 2) := hid (by rw [flatL_len]; simp)
      have FD : Hid (k * 2 + (flatL (List.replicate m ((0 : Int), (1 : Int)))).length ≤ (flatA (repV k (n - k))).size) := hid (by simp [flatA, flatL_len, repV_len]; omega)
      go_wp2_with fail
      go_region_law (refine step_copy_two (o := ⟨some 45, _, _, _, _, _⟩) rfl (.tmp 41) (.tmp 44) 25 25 rfl 24 rfl rfl w.heap.size (k * 2) (n - k) (n - k) ⟨w.heap.size, 0, none⟩ k n (by simp [Act.put, Act.eval, go_sem]) (by simp [Act.put, Act.eval, go_sem]) _ _ XD.out (flatL (List.replicate m (0, 1))) m HM.out LD.out SD.out FD.out (flatL_ints _) _ (repV_copy k (n - k) m hmn) ?_; intro w2 h2 hgr)
      have X3 := hid (show w2.heap[w.heap.size]? = some (.cells (flatA (repV (k + m) (n - (k + m)))) 24) by have := h2.out; rwa [show n - k - m = n - (k + m) by omega] at this)
      have G3 := hid (hgr w (GW.out.trans (Gr.drew _)) (Nat.le_refl _))
      have hwr : IntKind.i64.wrap ((k : Int) + (m : Int)) = ((k + m : Nat) : Int) := by rw [IntWalk.i64_in _ ⟨by omega, by omega⟩]; omega
      rw [hwr]
      simp only [List.getElem_toArray, List.getElem_cons_succ, List.getElem_cons_zero, Act.put, List.setIfInBounds_toArray, List.set_cons_succ, List.set_cons_zero]
      clear h2 hgr XD SD LD FD s1 s2 X0 GW hwr
      go_wp2_with fail
      exact ⟨⟨k + m, rfl, by omega, by omega, G3.out, X3.out⟩, by simp [intOf]; omega⟩
    · have hke : k = n := by omega
      subst hke
      go_wp2_with fail
      go_ret
      exact ⟨_, rfl, Nat.le_refl _, by simpa using X0.out, GW.out⟩
end Go.Proofs.Ytjhlpaeenjbljaa
