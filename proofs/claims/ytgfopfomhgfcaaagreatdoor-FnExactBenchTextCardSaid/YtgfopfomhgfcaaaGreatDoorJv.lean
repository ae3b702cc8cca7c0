/- TEXTS of several fractions: wordsOf (strings.Join) of the program. (The seat's ShelfJ: shelfj.sh.) -/
import Derived.Test.YtgfopfomhgfcaaaGreatDoorTr
import Derived.Test.YtgfopfomhgfcaaaGreatDoorShelfJ
import Derived.Test.YtgfopfomhgfcaaaGreatDoorCz
namespace Go.Proofs.YtgfopfomhgfcaaaGreatDoor
open Go.RowKit Go.Sort

theorem txtF_mk (p q : Int) : txtF p q = ⟨(txtFl p q).toArray⟩ := ba_of_list (txtF_list p q)
theorem txtFl_len {p q : Int} (h : okB p q = true) : (txtFl p q).length ≤ 43 := by
  obtain ⟨h1, h2, h3, h4⟩ := okB_bd h
  have a := Lib.itoa_length_le p (by omega) (by omega)
  have b := Lib.itoa_length_le q (by omega) (by omega)
  unfold txtFl
  split
  · omega
  · simp
    omega
/-- The words of fractions. -/
def wds (xs : List (Int × Int)) : List (List UInt8) := xs.map fun x => txtFl x.1 x.2
theorem wds_len (xs : List (Int × Int)) : (wds xs).length = xs.length := by simp [wds]
theorem wds_get {xs : List (Int × Int)} {k : Nat} {p q : Int} (h : xs[k]? = some (p, q)) : (wds xs)[k]? = some (txtFl p q) := by simp [wds, h]
theorem wds_take {xs : List (Int × Int)} {k : Nat} {p q : Int} (h : xs[k]? = some (p, q)) : strL ((wds xs).take k) ++ [Value.string (txtF p q)] = strL ((wds xs).take (k + 1)) := by
  rw [List.take_add_one, wds_get h, txtF_mk]
  simp [strL]
theorem jt_len : ∀ (xs : List (Int × Int)), (∀ x ∈ xs, okB x.1 x.2 = true) → (Lib.joinTail [32] (wds xs)).length ≤ 44 * xs.length
  | [], _ => by simp [wds, Lib.joinTail]
  | x :: r, h => by
    have h1 := txtFl_len (h x (by simp))
    have h2 := jt_len r fun y hy => h y (by simp [hy])
    have e : Lib.joinTail [32] (wds (x :: r)) = 32 :: txtFl x.1 x.2 ++ Lib.joinTail [32] (wds r) := by simp [wds, Lib.joinTail]
    rw [e]
    simp only [List.length_append, List.length_cons]
    omega
set_option maxRecDepth 20000 in
set_option maxHeartbeats 2000000 in
theorem iWords (A : Option Addr) (c n : Nat) (xs : List (Int × Int)) (w : World) (X : Hid (RdF w A xs)) (T : Hid (Pow w)) (hn : xs.length = n) (h2 : 2 ≤ n) (h9 : n ≤ 1000) (hk : ∀ x ∈ xs, okB x.1 x.2 = true) :
    Calls Tryz.prog 39 #[.slice A n c] w fun e w' => e = .returned (.string ⟨(Lib.join (wds xs) [32]).toArray⟩) ∧ Bl w w' := by
  obtain ⟨i0, hi, iz0, iz1, iz2⟩ : ∃ i, Tryz.prog.info? 9 = some i ∧ i.zero = some (.string ⟨#[]⟩) ∧ i.size = 1 ∧ i.bytes = 16 := ⟨_, rfl, by kernel_rfl, rfl, rfl⟩
  have HK := hid hk; have HN := hid hn
  clear hk hn
  go_enter Tryz.func39, Tryz.ntmps39
  go_wp2_with fail
  go_loopw [3, 8] (fun t u wr => ∃ (k : Nat) (A' : Option Addr) (c' : Nat), u = .int .i64 (k : Int) ∧ t = .slice A' k c' ∧ k ≤ n ∧ Gr w wr ∧ wr.ownsRow w.heap.size 9 1 (.slice A' k c') k (strL ((wds xs).take k))) (fun _ u _ => n - (intOf u).toNat)
  case atStart => exact ⟨0, none, 0, rfl, rfl, by omega, Gr.refl _, World.ownsRow_nil _ _ _ _⟩
  case round =>
    obtain ⟨k, A', c', rfl, rfl, hkn, hg, hown⟩ := hrel
    have GW := hid hg; have OWN := hid hown; clear hg hown
    by_cases hlt : k < n
    · obtain ⟨⟨p, q⟩, hp⟩ : ∃ x, xs[k]? = some x := ⟨xs[k]'(by rw [HN.out]; exact hlt), List.getElem?_eq_getElem _⟩
      obtain ⟨ad, rfl, c1, c2⟩ := (X.out.keep GW.out) k p q hp
      have hok := hid (HK.out (p, q) (List.mem_of_getElem? hp))
      have TK := hid (wds_take hp)
      have GF := hid ((Gr.refl wr).al (.cells #[.int .i64 p, .int .i64 q] 34))
      clear hp
      go_wp2_with fail
      refine (iFracText p q _ (hid (T.out.keep (GW.out.trans GF.out))) hok.out).mono ?_
      rintro e w5 ⟨rfl, hg5⟩
      have G5 := hid (GF.out.trans hg5); clear hg5
      have OWN5 := hid (own_gr OWN.out (G5.out.al (.cells #[.string (txtF p q)] 9)))
      have NEW := hid (one_newsS (w := w5.alloc (.cells #[.string (txtF p q)] 9)) (b := w5.heap.size) (alloc1 (Gr.refl _)).1)
      have G6 := hid ((GW.out.trans G5.out).al (.cells #[.string (txtF p q)] 9))
      have hb5 := G6.out.size
      go_wp2_with (at_builtin; refine (wpList_append_gr rfl _ _ 73 rfl w.heap.size 9 i0 (.string ⟨#[]⟩) 1 16 Tryz.underlying73 hi iz0 iz1 iz2 rfl (by decide) _ k _ rfl OWN5.out ⟨w5.heap.size, 0, none⟩ 1 1 [.string (txtF p q)] rfl rfl NEW.out (by simp [Value.oneCell']) (by decide) (by unfold maxLen; omega) (by omega) hb5 ?_))
      intro v' w9 own9 _ _ hgr
      obtain ⟨A2, c2', rfl⟩ := own_form own9
      rw [TK.out] at own9
      have OWN9 := hid own9
      have G9 := hid (hgr _ G6.out (Nat.le_refl _))
      clear own9 hgr
      go_wp2_with fail
      exact ⟨⟨k + 1, A2, c2', by simp, by simp, by omega, G9.out, OWN9.out⟩, by simp [intOf]; omega⟩
    · have hke : k = n := by omega
      subst hke
      have hte : (wds xs).take k = wds xs := List.take_of_length_le (by rw [wds_len, HN.out]; exact Nat.le_refl _)
      have O2 := hid OWN.out
      rw [hte] at O2
      have hcap := own_le O2.out
      obtain ⟨g, cur, rfl, hbg, hcur, hget⟩ := own_openS O2.out (by omega)
      have hB : ((wds xs).map fun d => (⟨d.toArray⟩ : ByteArray)).length = k := by rw [List.length_map, wds_len, HN.out]
      have hL : ((wds xs).map fun d => (⟨d.toArray⟩ : ByteArray)).map (·.data.toList) = wds xs := by
        rw [List.map_map]
        exact (List.map_congr_left fun d _ => rfl).trans (List.map_id _)
      have hjl : (Lib.join (wds xs) [32]).length ≤ 140737488355328 := by
        cases hxs : xs with
        | nil => rw [hxs] at HN; have := HN.out; simp at this; omega
        | cons x r =>
          have e : wds (x :: r) = txtFl x.1 x.2 :: wds r := rfl
          rw [e, Lib.join_cons, List.length_append]
          have q1 := txtFl_len (HK.out x (by rw [hxs]; simp))
          have q2 := jt_len r fun y hy => HK.out y (by rw [hxs]; simp [hy])
          have q3 := HN.out
          rw [hxs] at q3
          simp at q3
          omega
      have HJ := hid (Any.strings_Join_many Tryz.lays156 Tryz.extra156 g 0 c' ((wds xs).map fun d => (⟨d.toArray⟩ : ByteArray)) ⟨#[32]⟩ wr (fun j x hj => by
          rw [List.getElem?_map, Option.map_eq_some_iff] at hj
          obtain ⟨d, hd, rfl⟩ := hj
          rw [Nat.zero_add]
          exact str_cell hcur (hget j d hd)) (ltb hcur) (by rw [hB]; omega) (by rw [hB]; omega) (by rw [hB]; exact hcap) (by rw [hL]; exact hjl))
      rw [hB, hL] at HJ
      clear hte hcap hcur hget hB hL hjl
      go_wp2_with fail
      refine (HJ.out).mono ?_
      rintro e w9 ⟨rfl, hb⟩
      have B9 := hid (Bl.tr GW.out.below hb); clear hb
      go_wp2
      go_ret
      exact ⟨rfl, B9.out⟩
theorem jn_snoc (sep : List UInt8) : ∀ (l : List (List UInt8)) (a : List UInt8), Lib.join (l ++ [a]) sep = (l.map (· ++ sep)).flatten ++ a
  | [], a => by simp [Lib.join_cons, Lib.joinTail]
  | x :: r, a => by
    have e : Lib.joinTail sep (r ++ [a]) = sep ++ Lib.join (r ++ [a]) sep := by
      cases r with
      | nil => simp [Lib.join_cons, Lib.joinTail]
      | cons y s => rw [List.cons_append, Lib.join_cons]; simp [Lib.joinTail]
    rw [List.cons_append, Lib.join_cons, e, jn_snoc sep r a]
    simp
theorem jn_end (sep : List UInt8) (h : List UInt8) (r : List (List UInt8)) : Lib.join (h :: r) sep ++ sep = h ++ sep ++ (r.map (· ++ sep)).flatten := by
  rw [Lib.join_cons]
  induction r generalizing h with
  | nil => simp [Lib.joinTail]
  | cons y s ih =>
    have := ih y
    simp only [Lib.joinTail, List.map_cons, List.flatten_cons, List.append_assoc] at this ⊢
    rw [this]
theorem own_bl {w w' : World} {base : Nat} {e : TypeId} {size n : Nat} {v : Value} {xs : List Value} (h : w.ownsRow base e size v n xs) (hb : Bl w w') : w'.ownsRow base e size v n xs := by
  refine ⟨h.1, ?_⟩
  rcases h.2 with h0 | ⟨g, cap, cur, h1, h2, h3, h4⟩
  · exact .inl h0
  · exact .inr ⟨g, cap, cur, h1, h2, bl_keep hb h3, h4⟩
theorem own_blkT {w : World} {base : Nat} {e : TypeId} {size n : Nat} {v : Value} {xs : List Value} (h : w.ownsRow base e size v n xs) : ∀ k, v.ownBlock = some k → base ≤ k := by
  intro k hk
  rcases h.2 with ⟨rfl, _⟩ | ⟨g, cap, cur, rfl, hb, _⟩
  · simp [Value.ownBlock] at hk
  · simp [Value.ownBlock] at hk
    omega
theorem own_oneS (w : World) (s : ByteArray) (base : Nat) (hb : base ≤ w.heap.size) : (w.alloc (.cells #[.string s] 9)).ownsRow base 9 1 (.slice (some ⟨w.heap.size, 0, none⟩) 1 1) 1 [.string s] :=
  ⟨rfl, .inr ⟨w.heap.size, 1, #[.string s], rfl, hb, al_top w _, Nat.le_refl _, by decide, rfl, rfl⟩⟩
theorem own_neS {W : World} {base b n : Nat} {T : TypeId} {v : Value} {xs : List Value} {cs : Array Value} (h : W.ownsRow base 9 1 v n xs) (hb : W.heap[b]? = some (.cells cs T)) (hT : T ≠ 9) : v.ownBlock ≠ some b := by
  rcases h.2 with ⟨rfl, _⟩ | ⟨g, cap, cur, rfl, _, hg, _⟩
  · simp [Value.ownBlock]
  · simp only [Value.ownBlock, ne_eq, Option.some.injEq]
    rintro rfl
    rw [hg] at hb
    cases hb
    exact hT rfl
end Go.Proofs.YtgfopfomhgfcaaaGreatDoor
