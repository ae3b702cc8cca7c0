/- COUNTED: a map from fractions to how often they are there, of the call's own. -/
import Derived.Test.YtnbdafecgccojaaIs
import Derived.Test.YtnbdafecgccojaaB0
import Derived.WideKeyEntry
import Derived.Test.YtnbdafecgccojaaFm
namespace Go.Proofs.Ytnbdafecgccojaa
open Go.RowKit Go.Sort

/-- The entries of a map with the keys D, in the order in which they came. -/
def entsL (c : Int × Int → Int) : Nat → List (Int × Int) → List MapEntry
  | _, [] => []
  | b, x :: r => ⟨fr x.1 x.2, .int .i64 (c x), b⟩ :: entsL c (b + 1) r
theorem entsL_len (c : Int × Int → Int) : ∀ (b : Nat) (D : List (Int × Int)), (entsL c b D).length = D.length
  | _, [] => rfl
  | b, x :: r => by simp [entsL, entsL_len c (b + 1) r]
theorem entsL_get (c : Int × Int → Int) : ∀ (D : List (Int × Int)) (b j : Nat) (x : Int × Int), D[j]? = some x → (entsL c b D)[j]? = some ⟨fr x.1 x.2, .int .i64 (c x), b + j⟩
  | y :: r, b, 0, x, h => by simp at h; subst h; rfl
  | y :: r, b, j + 1, x, h => by
    have := entsL_get c r (b + 1) j x (by simpa using h)
    rw [show b + (j + 1) = b + 1 + j by omega]
    simpa [entsL] using this
theorem entsL_app (c : Int × Int → Int) (x : Int × Int) : ∀ (D : List (Int × Int)) (b : Nat), entsL c b (D ++ [x]) = entsL c b D ++ [⟨fr x.1 x.2, .int .i64 (c x), b + D.length⟩]
  | [], b => by simp [entsL]
  | y :: r, b => by
    have := entsL_app c x r (b + 1)
    simp only [List.cons_append, entsL, this, List.length_cons]
    rw [show b + (r.length + 1) = b + 1 + r.length by omega]
theorem keyOkF (b : Bool) (p q : Int) (w : World) : (Instr.checkKey b 10000 30 (fr p q)).run Try.prog w = .ok () w := by kernel_rfl
theorem staysF (p q : Int) (w : World) : (Instr.keyThatStays (fr p q) (fr p q)).run Try.prog w = .ok (fr p q) w := by
  simp [Instr.keyThatStays, Instr.sameBits, go_sem]
theorem frEq (p q p' q' : Int) (w : World) : (Op.equal 30 (fr p q) (fr p' q')).run Try.prog w = .ok (decide ((p, q) = (p', q'))) w := by
  have hp : Try.prog.stoodInHeld 30 = false := by kernel_rfl
  have h := run_equalIn_struct (P := Try.prog) w 9999 30 #[.int .i64 p, .int .i64 q] #[.int .i64 p', .int .i64 q'] (by kernel_rfl) hp
  have e : (Op.equal 30 (fr p q) (fr p' q')).run Try.prog w = (Op.equalIn (9999 + 1) 30 (fr p q) (fr p' q')).run Try.prog w := rfl
  rw [e, h]
  by_cases h1 : p = p'
  · subst h1
    by_cases h2 : q = q'
    · subst h2
      simp [Op.eqFields, Program.fieldsOf, go_sem]
    · have hb : (q == q') = false := by simpa using h2
      simp [Op.eqFields, Program.fieldsOf, go_sem, h2]
  · have hb : (p == p') = false := by simpa using h1
    simp [Op.eqFields, Program.fieldsOf, go_sem, h1]
theorem findAskF (c : Int × Int → Int) (x : Int × Int) : ∀ (D : List (Int × Int)) (b i : Nat),
    (∃ j, D[j]? = some x ∧ ∀ w, (Instr.findAsking 30 (fr x.1 x.2) (entsL c b D) i).run Try.prog w = .ok (some (i + j, .int .i64 (c x))) w) ∨ (x ∉ D ∧ ∀ w, (Instr.findAsking 30 (fr x.1 x.2) (entsL c b D) i).run Try.prog w = .ok none w)
  | [], b, i => .inr ⟨by simp, fun w => rfl⟩
  | y :: r, b, i => by
    by_cases hxy : x = y
    · subst hxy
      refine .inl ⟨0, rfl, fun w => ?_⟩
      simp [entsL, Instr.findAsking, frEq, Result.andThen]
    · have hd : decide ((x.1, x.2) = (y.1, y.2)) = false := decide_eq_false fun h => hxy h
      rcases findAskF c x r (b + 1) (i + 1) with ⟨j, hj, hr⟩ | ⟨hn, hr⟩
      · refine .inl ⟨j + 1, by simpa using hj, fun w => ?_⟩
        simp only [entsL, Instr.findAsking, Sem.run_bind, frEq, hd, Result.andThen_ok]
        rw [show i + (j + 1) = i + 1 + j by omega]
        simpa using hr w
      · refine .inr ⟨by simp [hxy, hn], fun w => ?_⟩
        simp only [entsL, Instr.findAsking, Sem.run_bind, frEq, hd, Result.andThen_ok]
        simpa using hr w
/-- The block of such a map. -/
def mapO (c : Int × Int → Int) (D : List (Int × Int)) : Obj := .map (entsL c 0 D).toArray D.length
theorem findF (c : Int × Int → Int) (x : Int × Int) (D : List (Int × Int)) :
    (∃ j, D[j]? = some x ∧ ∀ w, (Instr.findKey 30 (fr x.1 x.2) (entsL c 0 D)).run Try.prog w = .ok (some (j, .int .i64 (c x))) w) ∨ (x ∉ D ∧ ∀ w, (Instr.findKey 30 (fr x.1 x.2) (entsL c 0 D)).run Try.prog w = .ok none w) := by
  have hu : Try.prog.underlying 30 = some (.struct (Try.prog.fieldsOf 30)) := by kernel_rfl
  cases D with
  | nil => exact .inr ⟨by simp, fun w => by simp [entsL, Instr.findKey, run_underlying hu, Instr.findNow, Result.andThen]⟩
  | cons y r =>
    have hs : Instr.findNow (.struct (Try.prog.fieldsOf 30)) (fr x.1 x.2) (entsL c 0 (y :: r)) 0 = none := by
      simp [entsL, Instr.findNow, Instr.sameNow]
    rcases findAskF c x (y :: r) 0 0 with ⟨j, hj, hr⟩ | ⟨hn, hr⟩
    · refine .inl ⟨j, hj, fun w => ?_⟩
      have := hr w
      rw [Nat.zero_add] at this
      simp [Instr.findKey, run_underlying hu, hs, this, Result.andThen]
    · exact .inr ⟨hn, fun w => by simp [Instr.findKey, run_underlying hu, hs, hr w, Result.andThen]⟩
theorem lookF (c : Int × Int → Int) (x : Int × Int) (D : List (Int × Int)) (m : Nat) (w : World) (hm : w.heap[m]? = some (mapO c D)) (hc : x ∉ D → c x = 0) :
    (Instr.lookup 232 (.map (some m)) (fr x.1 x.2) false).run Try.prog w = .ok (.int .i64 (c x)) w := by
  have hu : Try.prog.underlying 232 = some (.map 30 3) := by kernel_rfl
  have hz : ∀ w, (zeroValue 3).run Try.prog w = .ok (.int .i64 0) w := fun w => by kernel_rfl
  unfold mapO at hm
  rcases findF c x D with ⟨j, _, hj⟩ | ⟨hn, hj⟩
  · simp [Instr.lookup, run_underlying hu, MapKept.run_getObj_map hm, keyOkF, hj, Result.andThen]
  · simp [Instr.lookup, run_underlying hu, MapKept.run_getObj_map hm, keyOkF, hj, hz, hc hn, Result.andThen]
/-- The keys behind mapEntry. -/
def addK (D : List (Int × Int)) (x : Int × Int) : List (Int × Int) := if x ∈ D then D else D ++ [x]
def upd (c : Int × Int → Int) (x : Int × Int) (v : Int) : Int × Int → Int := fun y => if y = x then v else c y
theorem addK_nodup {D : List (Int × Int)} {x : Int × Int} (h : D.Nodup) : (addK D x).Nodup := by
  unfold addK
  split
  · exact h
  next hn => exact List.nodup_append.2 ⟨h, by simp, fun a ha b hb e => by simp at hb; subst hb; subst e; exact hn ha⟩
theorem entsL_congr {c c' : Int × Int → Int} : ∀ (D : List (Int × Int)) (b : Nat), (∀ y ∈ D, c y = c' y) → entsL c b D = entsL c' b D
  | [], _, _ => rfl
  | y :: r, b, h => by
    unfold entsL
    rw [h y (by simp), entsL_congr r (b + 1) fun z hz => h z (by simp [hz])]
theorem entsL_upd (c : Int × Int → Int) (x : Int × Int) (v : Int) : ∀ (D : List (Int × Int)) (b j : Nat), D.Nodup → D[j]? = some x → (entsL c b D).modify j (fun e => { e with val := .int .i64 v }) = entsL (upd c x v) b D
  | y :: r, b, 0, hn, h => by
    simp at h
    subst h
    have hn' := (List.nodup_cons.1 hn).1
    simp only [entsL, List.modify_zero_cons]
    rw [entsL_congr r (b + 1) (c' := upd c y v) fun z hz => by unfold upd; rw [if_neg (fun (e : z = y) => hn' (e ▸ hz))]]
    simp [upd]
  | y :: r, b, j + 1, hn, h => by
    have hr : r[j]? = some x := by simpa using h
    have hne : y ≠ x := fun e => (List.nodup_cons.1 hn).1 (e ▸ List.mem_of_getElem? hr)
    simp only [entsL, List.modify_succ_cons]
    rw [entsL_upd c x v r (b + 1) j (List.nodup_cons.1 hn).2 hr]
    simp [upd, hne]
theorem entsL_born (c : Int × Int → Int) : ∀ (D : List (Int × Int)) (b : Nat), (entsL c b D).map (·.born) = List.range' b D.length
  | [], _ => rfl
  | y :: r, b => by simp [entsL, entsL_born c r (b + 1), List.range'_succ]
theorem entryF (c : Int × Int → Int) (x : Int × Int) (D : List (Int × Int)) (m : Nat) (w : World) (hm : w.heap[m]? = some (mapO c D)) (hc : x ∉ D → c x = 0) :
    ∃ j : Nat, (addK D x)[j]? = some x ∧ (Instr.mapEntry 232 (.map (some m)) (fr x.1 x.2)).run Try.prog w = .ok (.tuple #[.int .i64 (c x), .int .i64 (j : Int)]) { w with heap := w.heap.setIfInBounds m (mapO c (addK D x)) } := by
  have hu : Try.prog.underlying 232 = some (.map 30 3) := by kernel_rfl
  have hz : ∀ w, (zeroValue 3).run Try.prog w = .ok (.int .i64 0) w := fun w => by kernel_rfl
  unfold mapO at hm
  rcases findF c x D with ⟨j, hd, hj⟩ | ⟨hn, hj⟩
  · have hin : x ∈ D := List.mem_of_getElem? hd
    have ha : addK D x = D := by unfold addK; rw [if_pos hin]
    rw [ha]
    refine ⟨j, hd, ?_⟩
    have hg := entsL_get c D 0 j x hd
    rw [Nat.zero_add] at hg
    have hsame : (entsL c 0 D).modify j (fun e => { key := fr x.1 x.2, val := e.val, born := e.born }) = entsL c 0 D := by
      rw [ChangeMaps.modify_eq_set _ _ _ _ hg]
      exact WideElems.set_self _ _ _ hg
    simp [Instr.mapEntry, run_underlying hu, MapKept.run_getObj_map hm, keyOkF, hj, hg, staysF, hsame, MapKept.run_setObj_map _ hm, Result.andThen, mapO, goInt]
  · have ha : addK D x = D ++ [x] := by unfold addK; rw [if_neg hn]
    rw [ha]
    refine ⟨D.length, by simp, ?_⟩
    have hp : mapO c (D ++ [x]) = .map ((entsL c 0 D).toArray.push ⟨fr x.1 x.2, .int .i64 0, D.length⟩) (D.length + 1) := by
      unfold mapO
      rw [entsL_app]
      simp [hc hn]
    rw [hp]
    simp [Instr.mapEntry, run_underlying hu, MapKept.run_getObj_map hm, keyOkF, hj, hz, hc hn, MapKept.run_setObj_map _ hm, Result.andThen, goInt]
theorem storeF (c : Int × Int → Int) (x : Int × Int) (v : Int) (D : List (Int × Int)) (m j : Nat) (w : World) (hm : w.heap[m]? = some (mapO c D)) (hn : D.Nodup) (hj : D[j]? = some x) :
    (Instr.entryStore 232 (.map (some m)) (.int .i64 (j : Int)) (.int .i64 v)).run Try.prog w = .ok () { w with heap := w.heap.setIfInBounds m (mapO (upd c x v) D) } := by
  unfold mapO at hm
  have hg := entsL_get c D 0 j x hj
  have hidx : (entsL c 0 D).toArray.findIdx? (fun e => ((e.born : Nat) : Int) == ((j : Nat) : Int)) = some j := by
    rw [WideElems.findIdx_arr]
    have := WideElems.findIdx_born (l := entsL c 0 D) (by rw [entsL_born]; exact List.nodup_range') hg
    simpa using this
  have hmod : (entsL c 0 D).toArray.modify j (fun e => { e with val := .int .i64 v }) = (entsL (upd c x v) 0 D).toArray := by
    apply Array.ext'
    rw [Array.toList_modify]
    exact entsL_upd c x v D 0 j hn hj
  simp [Instr.entryStore, MapKept.run_getObj_map hm, asInt, asIntOf, hidx, hmod, MapKept.run_setObj_map _ hm, Result.andThen, mapO]
end Go.Proofs.Ytnbdafecgccojaa
namespace Go.Proofs.Ytnbdafecgccojaa
open Go.RowKit Go.Sort

def dif (L : List (Int × Int)) : List (Int × Int) := L.foldl addK []
def cnt (L : List (Int × Int)) : Int × Int → Int := fun x => (L.count x : Int)
theorem dif_snoc (L : List (Int × Int)) (x : Int × Int) : dif (L ++ [x]) = addK (dif L) x := by simp [dif, List.foldl_append]
theorem mem_addK {D : List (Int × Int)} {x y : Int × Int} : y ∈ addK D x ↔ y ∈ D ∨ y = x := by
  unfold addK
  split
  next h => exact ⟨.inl, fun h' => h'.elim id (fun e => by rw [e]; exact h)⟩
  · simp
theorem mem_foldl : ∀ (L D : List (Int × Int)) (y : Int × Int), y ∈ L.foldl addK D ↔ y ∈ D ∨ y ∈ L
  | [], D, y => by simp
  | x :: r, D, y => by rw [List.foldl_cons, mem_foldl r (addK D x) y, mem_addK, List.mem_cons, or_assoc]
theorem mem_dif {L : List (Int × Int)} {y : Int × Int} : y ∈ dif L ↔ y ∈ L := by unfold dif; rw [mem_foldl]; simp
theorem foldl_nodup : ∀ (L D : List (Int × Int)), D.Nodup → (L.foldl addK D).Nodup
  | [], _, h => h
  | x :: r, D, h => by rw [List.foldl_cons]; exact foldl_nodup r _ (addK_nodup h)
theorem dif_nodup (L : List (Int × Int)) : (dif L).Nodup := foldl_nodup L [] List.nodup_nil
theorem cnt_none {L : List (Int × Int)} {x : Int × Int} (h : x ∉ dif L) : cnt L x = 0 := by
  unfold cnt
  rw [List.count_eq_zero.2 (fun h' => h (mem_dif.2 h'))]
  rfl
theorem cnt_snoc (L : List (Int × Int)) (x : Int × Int) : upd (cnt L) x (cnt L x + 1) = cnt (L ++ [x]) := by
  funext y
  unfold upd cnt
  rw [List.count_append]
  by_cases h : y = x
  · subst h; simp
  · have : List.count y [x] = 0 := List.count_eq_zero.2 (by simpa using h)
    rw [if_neg h, this]
    simp
theorem cnt_zero {L : List (Int × Int)} {x : Int × Int} : cnt L x = 0 ↔ x ∉ dif L := by
  unfold cnt
  rw [mem_dif]
  constructor
  · intro h; exact List.count_eq_zero.1 (by omega)
  · intro h; rw [List.count_eq_zero.2 h]; rfl
theorem addK_len (D : List (Int × Int)) (x : Int × Int) : (addK D x).length ≤ D.length + 1 := by
  unfold addK
  split <;> simp
theorem foldl_len : ∀ (L D : List (Int × Int)), (L.foldl addK D).length ≤ D.length + L.length
  | [], _ => Nat.le_refl _
  | x :: r, D => by
    rw [List.foldl_cons, List.length_cons]
    have := foldl_len r (addK D x)
    have := addK_len D x
    omega
theorem dif_len (L : List (Int × Int)) : (dif L).length ≤ L.length := by
  have := foldl_len L []
  simpa [dif] using this
end Go.Proofs.Ytnbdafecgccojaa
