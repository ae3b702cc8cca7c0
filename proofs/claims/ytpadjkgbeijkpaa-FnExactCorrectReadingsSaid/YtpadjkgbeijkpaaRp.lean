/- READERS: slices.Repeat of one reader. -/
import Derived.Test.YtpadjkgbeijkpaaRq
import Derived.Laws.CopyRow
import Derived.Laws.Bits64b
import Derived.Deep.RegionLaw
namespace Go.Proofs.Ytpadjkgbeijkpaa
open Go.RowKit Go.Sort

theorem run_copy_4 {P : Program} (w : World) (dT sT ty elem : TypeId) (g o dLen dCap : Nat) (a : Addr) (sLen sCap : Nat) (cur : Array Value) (t : TypeId) (cs : List Value)
    (hu : P.underlying dT = some (.slice elem)) (hs : (P.info? elem).map (·.size) = some 4)
    (hg : w.heap[g]? = some (.cells cur t)) (hn : cs.length = Nat.min sLen dLen * 4)
    (hsrc : ∀ j v, cs[j]? = some v → w.cell? (a.add j) = some v) (hfit : o + cs.length ≤ cur.size) (h1 : ∀ v ∈ cs, v.oneCell' = true) :
    (Builtin.copy_ #[dT, sT] ty #[.slice (some ⟨g, o, none⟩) dLen dCap, .slice (some a) sLen sCap]).run P w =
      .ok (goInt (Nat.min sLen dLen)) (w.setRow g (cur.toList.take o ++ cs ++ cur.toList.drop (o + cs.length)).toArray) := by
  have hl := run_loadCells_list (P := P) w a cs hsrc
  have hst := run_storeCells_at P g o t cs 0 cur w hg (by simpa using hfit) h1
  cases hq : P.info? elem with
  | none => simp [hq] at hs
  | some i =>
    have hi : i.size = 4 := by simpa [hq] using hs
    rw [hn] at hl
    simp [Builtin.copy_, run_underlying hu, Builtin.lenOf, Builtin.firstCells, sizeOf, typeInfo, hq, hi, hl, hst]
theorem step_copy_4 {P : Program} {ops : Array Oper} {o : Oper} {a : Act} {w : World} {K : Act → World → Prop} {Q : Exit → Act → World → Prop} {E : Prop} (hgd : o.guard = none) (d s : Operand) (dT sT : TypeId)
    (ho : o.op = .call { callee := .builtin .copy, args := #[d, s], argTypes := #[dT, sT] }) (elem : TypeId) (hu : P.underlying dT = some (.slice elem)) (hsz : (P.info? elem).map (·.size) = some 4)
    (g off dLen dCap : Nat) (ad : Addr) (sLen sCap : Nat) (hd : a.eval d = .slice (some ⟨g, off, none⟩) dLen dCap) (hs : a.eval s = .slice (some ad) sLen sCap)
    (cur : Array Value) (t : TypeId) (hg : w.heap[g]? = some (.cells cur t)) (cs : List Value) (m : Nat) (hm : m = Nat.min sLen dLen) (hn : cs.length = m * 4)
    (hsrc : ∀ j v, cs[j]? = some v → w.cell? (ad.add j) = some v) (hfit : off + cs.length ≤ cur.size) (h1 : ∀ v ∈ cs, v.oneCell' = true)
    (new : Array Value) (hnew : (cur.toList.take off ++ cs ++ cur.toList.drop (off + cs.length)).toArray = new)
    (h : ∀ w', Hid (w'.heap[g]? = some (.cells new t)) → (∀ W0, Gr W0 w → W0.heap.size ≤ g → Gr W0 w') → K (a.put o.dst (goInt m)) w') :
    if Region.wanted o (yielded ops a.tmps) = true then Oper.wp P o a w K Q else E := by
  have hw : Region.wanted o (yielded ops a.tmps) = true := by simp [Region.wanted, hgd]
  rw [if_pos hw]
  subst hm
  have hrun := run_copy_4 (P := P) w dT sT o.type elem g off dLen dCap ad sLen sCap cur t cs hu hsz hg hn hsrc hfit h1
  unfold Oper.wp
  simp [execOp, ho, resolve, invoke, builtin, hd, hs, hrun, Result.andThen]
  refine h _ (show _ = _ by rw [← hnew]; simpa using setRow_heap w g _ _ t _ hg) fun W0 h0 hz => h0.setRow hz _
theorem wpList_copy_4 {P : Program} {w : World} {ops : Array Oper} {rest : List Oper} {o : Oper} {a : Act} {Q : Exit → Act → World → Prop} (hgd : o.guard = none) (d s : Operand) (dT sT : TypeId)
    (ho : o.op = .call { callee := .builtin .copy, args := #[d, s], argTypes := #[dT, sT] }) (elem : TypeId) (hu : P.underlying dT = some (.slice elem)) (hsz : (P.info? elem).map (·.size) = some 4)
    (g off dLen dCap : Nat) (ad : Addr) (sLen sCap : Nat) (hd : a.eval d = .slice (some ⟨g, off, none⟩) dLen dCap) (hs : a.eval s = .slice (some ad) sLen sCap)
    (cur : Array Value) (t : TypeId) (hg : w.heap[g]? = some (.cells cur t)) (cs : List Value) (m : Nat) (hm : m = Nat.min sLen dLen) (hn : cs.length = m * 4)
    (hsrc : ∀ j v, cs[j]? = some v → w.cell? (ad.add j) = some v) (hfit : off + cs.length ≤ cur.size) (h1 : ∀ v ∈ cs, v.oneCell' = true)
    (new : Array Value) (hnew : (cur.toList.take off ++ cs ++ cur.toList.drop (off + cs.length)).toArray = new)
    (h : ∀ w', Hid (w'.heap[g]? = some (.cells new t)) → (∀ W0, Gr W0 w → W0.heap.size ≤ g → Gr W0 w') → wpList P ops Q rest (a.put o.dst (goInt m)) w') : wpList P ops Q (o :: rest) a w := by
  refine wpList_plain hgd fun K hK => ?_
  subst hm
  have hrun := run_copy_4 (P := P) w dT sT o.type elem g off dLen dCap ad sLen sCap cur t cs hu hsz hg hn hsrc hfit h1
  unfold Oper.wp
  simp [execOp, ho, resolve, invoke, builtin, hd, hs, hrun, Result.andThen]
  refine hK _ _ (h _ (show _ = _ by rw [← hnew]; simpa using setRow_heap w g _ _ t _ hg) fun W0 h0 hz => h0.setRow hz _)
set_option maxHeartbeats 1000000 in
theorem mul64_r (n : Nat) (hn : n ≤ 64) (w : World) : Calls Try.prog 161 #[.int .u64 1, .int .u64 (n : Int)] w fun e w' => e = .returned (.tuple #[.int .u64 0, .int .u64 (n : Int)]) ∧ w = w' := by
  have m1 : bits .and .u64 1 4294967295 = 1 := by decide +kernel
  have m0 : bits .and .u64 0 4294967295 = 0 := by decide +kernel
  have m2 : bits .and .u64 (n : Int) 4294967295 = (n : Int) := by
    have h := bits_and_u64_nat n 4294967295 (by omega) (by omega)
    rw [show n &&& 4294967295 = n % 4294967296 from Nat.and_two_pow_sub_one_eq_mod n 32, Nat.mod_eq_of_lt (by omega)] at h
    exact h
  have d1 : (n : Int) / 4294967296 = 0 := by omega
  have hw : IntKind.u64.wrap (n : Int) = n := by rw [IntKind.wrap_u64]; omega
  go_enter Try.func161, Try.ntmps161
  go_wp2_with fail
  go_ret2
  exact ⟨rfl, rfl⟩
set_option maxHeartbeats 1000000 in
theorem mul_r (n : Nat) (hn : n ≤ 64) (w : World) : Calls Try.prog 127 #[.int .u64 1, .int .u64 (n : Int)] w fun e w' => e = .returned (.tuple #[.int .u64 0, .int .u64 (n : Int)]) ∧ w = w' := by
  go_enter Try.func127, Try.ntmps127
  go_wp2_with (go_at_call 161; refine (mul64_r n hn _).mono ?_; rintro e w1 ⟨rfl, rfl⟩)
  go_ret2
  exact ⟨rfl, rfl⟩
/-- So many readers, the first ones of which are x. -/
def rpV (x : Rqv) (k m : Nat) : List Rqv := List.replicate k x ++ List.replicate m zRq
theorem rpV_len (x : Rqv) (k m : Nat) : (rpV x k m).length = k + m := by simp [rpV]
theorem rpV_copy (x : Rqv) (k m j : Nat) (h : j ≤ m) : ((rowRq (rpV x k m) []).toList.take (k * 4) ++ flRq (List.replicate j x) ++ (rowRq (rpV x k m) []).toList.drop (k * 4 + (flRq (List.replicate j x)).length)).toArray = rowRq (rpV x (k + j) (m - j)) [] := by
  have e : List.replicate m zRq = List.replicate j zRq ++ List.replicate (m - j) zRq := by rw [List.replicate_append_replicate, show j + (m - j) = m by omega]
  have e1 : (rowRq (rpV x k m) []).toList = flRq (List.replicate k x) ++ (flRq (List.replicate j zRq) ++ flRq (List.replicate (m - j) zRq)) := by
    unfold rowRq rpV
    rw [List.append_nil, e, flRq_app2, flRq_app2]
  have e2 : flRq (rpV x (k + j) (m - j)) = flRq (List.replicate k x) ++ flRq (List.replicate j x) ++ flRq (List.replicate (m - j) zRq) := by
    unfold rpV
    rw [flRq_app2, ← List.replicate_append_replicate, flRq_app2]
  rw [e1, List.take_left' (by rw [flRq_len]; simp), ← List.append_assoc (flRq (List.replicate k x)) (flRq (List.replicate j zRq)), List.drop_left' (by rw [List.length_append, flRq_len, flRq_len, flRq_len]; simp)]
  unfold rowRq
  rw [List.append_nil, e2]
theorem rpV_src {x : Rqv} {w : World} {g k m j : Nat} {T : TypeId} (h : w.heap[g]? = some (.cells (rowRq (rpV x k m) []) T)) (hj : j ≤ k) : ∀ i v, (flRq (List.replicate j x))[i]? = some v → w.cell? ((⟨g, 0, none⟩ : Addr).add i) = some v := by
  intro i v hv
  have hl := (List.getElem?_eq_some_iff.1 hv).1
  have e : flRq (rpV x k m) = flRq (List.replicate j x) ++ (flRq (List.replicate (k - j) x) ++ flRq (List.replicate m zRq)) := by
    unfold rpV
    rw [flRq_app2, show k = j + (k - j) by omega, ← List.replicate_append_replicate, flRq_app2, show j + (k - j) - j = k - j by omega, List.append_assoc]
  rw [add_at]
  have : (rowRq (rpV x k m) [])[i]? = some v := by
    unfold rowRq
    rw [List.append_nil, e, List.getElem?_toArray, List.getElem?_append_left hl, hv]
  simp [World.cell?, h, this]
theorem tailR (g n k : Nat) (hk : k < n) (w : World) : (Instr.sliceAt 52 (.slice (some ⟨g, 0, none⟩) n n) (some (.int .i64 (k : Int))) none none).run Try.prog w = .ok (.slice (some ⟨g, k * 4, none⟩) (n - k) (n - k)) w := by
  have hsz : ∀ w, (sizeOf (Try.prog.elem 52)).run Try.prog w = .ok 4 w := fun w => by kernel_rfl
  have ht : Try.prog.underlying 52 = some (.slice (Try.prog.elem 52)) := by kernel_rfl
  rw [run_sliceAt_slice w 52 _ _ _ _ ht, run_slice_l w 52 _ _ _ ht .i64 _ (by omega) (by omega), hsz]
  have e2 : ¬ n = k := by omega
  simp [Result.andThen, sliced, add_at, e2]
theorem headRs (g n k : Nat) (hk : k ≤ n) (w : World) : (Instr.sliceAt 52 (.slice (some ⟨g, 0, none⟩) n n) none (some (.int .i64 (k : Int))) none).run Try.prog w = .ok (.slice (some ⟨g, 0, none⟩) k n) w := by
  have hsz : ∀ w, (sizeOf (Try.prog.elem 52)).run Try.prog w = .ok 4 w := fun w => by kernel_rfl
  have ht : Try.prog.underlying 52 = some (.slice (Try.prog.elem 52)) := by kernel_rfl
  rw [run_sliceAt_slice w 52 _ _ _ _ ht, run_slice_h w 52 _ _ _ ht .i64 _ (by omega) (by omega), hsz]
  simp [Result.andThen, sliced, add_at]
set_option maxRecDepth 20000 in
set_option maxHeartbeats 2000000 in
theorem iRepeatR (x : Rqv) (g n : Nat) (T : TypeId) (w : World) (X : Hid (w.heap[g]? = some (.cells (rowRq [x] []) T))) (h1n : 1 ≤ n) (hn : n ≤ 64) :
    Calls Try.prog 72 #[.slice (some ⟨g, 0, none⟩) 1 1, .int .i64 (n : Int)] w fun e w' => ∃ b, e = .returned (.slice (some ⟨b, 0, none⟩) n n) ∧ w.heap.size ≤ b ∧ w'.heap[b]? = some (.cells (rowRq (rpV x n 0) []) 67) ∧ Gr w w' := by
  have hmk := makeRq n (by omega)
  have hA : Hid ((w.alloc (.cells (rowRq (List.replicate n zRq) []) 67)).heap[w.heap.size]? = some (.cells (rowRq (rpV x 0 n) []) 67)) := hid (by simpa [rpV] using (alloc1 (Gr.refl (w.alloc (.cells (rowRq (List.replicate n zRq) []) 67)))).1)
  have hS : Hid (∀ i v, (flRq (List.replicate 1 x))[i]? = some v → (w.alloc (.cells (rowRq (List.replicate n zRq) []) 67)).cell? ((⟨g, 0, none⟩ : Addr).add i) = some v) :=
    hid (rpV_src (k := 1) (m := 0) (j := 1) (by simpa [rpV] using ((Gr.refl w).al _).keep X.out) (Nat.le_refl _))
  have w1 : IntKind.u64.wrap (n : Int) = (n : Int) := by rw [IntKind.wrap_u64]; omega
  have q1 : 1 = Nat.min 1 n := (Nat.min_eq_left h1n).symm
  have q2 : (flRq (List.replicate 1 x)).length = 1 * 4 := by rw [flRq_len]; simp
  have q3 : 0 + (flRq (List.replicate 1 x)).length ≤ (rowRq (rpV x 0 n) []).size := by rw [flRq_len, rowRq_size, rpV_len]; simp only [List.length_replicate, List.length_nil]; omega
  have Q1 := hid q1; have Q2 := hid q2; have Q3 := hid q3; clear q1 q2 q3
  go_enter Try.func72, Try.ntmps72
  go_wp2_with (first
    | (go_at_call 127; refine (mul_r n hn _).mono ?_; rintro e w1 ⟨rfl, rfl⟩)
    | (refine wpList_copy_4 rfl (.tmp 31) (.tmp 32) 52 52 rfl 67 rfl rfl w.heap.size 0 n n ⟨g, 0, none⟩ 1 1 rfl rfl _ _ hA.out (flRq (List.replicate 1 x)) 1 Q1.out Q2.out hS.out Q3.out (flRq_one _) _ (rpV_copy x 0 n 1 (by omega)) ?_; intro w2 h2 hgr))
  have X2 := hid h2.out; have G2 := hid (hgr w ((Gr.refl w).al _) (Nat.le_refl _))
  clear hmk hA hS w1 h2 hgr X
  go_loopw [8] (fun u wr => ∃ (k : Nat), u = .int .i64 (k : Int) ∧ 0 < k ∧ k ≤ n ∧ Gr w wr ∧ wr.heap[w.heap.size]? = some (.cells (rowRq (rpV x k (n - k)) []) 67)) (fun u _ => n - (intOf u).toNat)
  case atStart => exact ⟨1, rfl, by omega, by omega, G2.out, by simpa using X2.out⟩
  case round =>
    obtain ⟨k, rfl, hk0, hk, g, x0⟩ := hrel
    have GW := hid g; have X0 := hid x0
    clear g x0 X2 G2
    by_cases hlt : k < n
    · have s1 := tailR w.heap.size n k hlt
      have s2 := headRs w.heap.size n k hk
      obtain ⟨m, hm⟩ : ∃ m, m = Nat.min k (n - k) := ⟨_, rfl⟩
      have hmk : m ≤ k := by rw [hm]; exact Nat.min_le_left _ _
      have hmn : m ≤ n - k := by rw [hm]; exact Nat.min_le_right _ _
      have hm0 : 0 < m := by rw [hm]; exact Nat.lt_min.2 ⟨hk0, by omega⟩
      have HM := hid hm
      clear hm
      have XD : Hid (wr.drew.heap[w.heap.size]? = some (.cells (rowRq (rpV x k (n - k)) []) 67)) := hid ((Gr.drew wr).keep X0.out)
      have SD := hid (rpV_src XD.out hmk)
      have LD : Hid ((flRq (List.replicate m x)).length = m * 4) := hid (by rw [flRq_len]; simp)
      have FD : Hid (k * 4 + (flRq (List.replicate m x)).length ≤ (rowRq (rpV x k (n - k)) []).size) := hid (by rw [flRq_len, rowRq_size, rpV_len]; simp only [List.length_replicate, List.length_nil]; omega)
      go_wp2_with fail
      go_region_law (refine step_copy_4 (o := ⟨some 45, _, _, _, _, _⟩) rfl (.tmp 41) (.tmp 44) 52 52 rfl 67 rfl rfl w.heap.size (k * 4) (n - k) (n - k) ⟨w.heap.size, 0, none⟩ k n (by simp [Act.put, Act.eval, go_sem]) (by simp [Act.put, Act.eval, go_sem]) _ _ XD.out (flRq (List.replicate m x)) m HM.out LD.out SD.out FD.out (flRq_one _) _ (rpV_copy x k (n - k) m hmn) ?_; intro w2 h2 hgr)
      have X3 := hid (show w2.heap[w.heap.size]? = some (.cells (rowRq (rpV x (k + m) (n - (k + m))) []) 67) by have := h2.out; rwa [show n - k - m = n - (k + m) by omega] at this)
      have G3 := hid (hgr w (GW.out.trans (Gr.drew _)) (Nat.le_refl _))
      have hwr : IntKind.i64.wrap ((k : Int) + (m : Int)) = ((k + m : Nat) : Int) := by rw [IntWalk.i64_in _ ⟨by omega, by omega⟩]; omega
      rw [hwr]
      simp only [List.getElem_toArray, List.getElem_cons_succ, List.getElem_cons_zero, Act.put, List.setIfInBounds_toArray, List.set_cons_succ, List.set_cons_zero]
      clear h2 hgr XD SD LD FD s1 s2 X0 GW hwr
      go_wp2_with fail
      exact ⟨⟨k + m, rfl, by omega, by omega, G3.out, X3.out⟩, by simp [intOf]; omega⟩
    · have hke : k = n := by omega
      subst hke
      go_wp2_with fail
      go_ret
      exact ⟨_, rfl, Nat.le_refl _, by simpa using X0.out, GW.out⟩
end Go.Proofs.Ytpadjkgbeijkpaa
