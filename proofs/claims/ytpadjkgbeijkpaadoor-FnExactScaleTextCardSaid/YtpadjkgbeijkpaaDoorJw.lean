/- TEXTS of several fractions: wordsOf (strings.Join) of the program, l02Text of the reference. (The seat's ShelfJ: shelfj.sh.) -/
import Derived.Test.YtpadjkgbeijkpaaDoorTs
import Derived.Test.YtpadjkgbeijkpaaDoorShelfJ
import Derived.Test.YtpadjkgbeijkpaaDoorCc
import Derived.Test.YtpadjkgbeijkpaaDoorSkf
import Derived.Test.YtpadjkgbeijkpaaDoorTv
import Derived.Test.YtpadjkgbeijkpaaDoorWb
namespace Go.Proofs.YtpadjkgbeijkpaaDoor
open Go.RowKit Go.Sort

theorem txtF_mk (p q : Int) : txtF p q = ⟨(txtFl p q).toArray⟩ := ba_of_list (txtF_list p q)
theorem txtFl_len {p q : Int} (h : okB p q = true) : (txtFl p q).length ≤ 43 := by
  obtain ⟨h1, h2, h3, h4⟩ := okB_bd h
  have a := Lib.itoa_length_le p (by omega) (by omega)
  have b := Lib.itoa_length_le q (by omega) (by omega)
  unfold txtFl
  split
  · omega
  · simp
    omega
/-- The words of fractions. -/
def wds (xs : List (Int × Int)) : List (List UInt8) := xs.map fun x => txtFl x.1 x.2
theorem wds_len (xs : List (Int × Int)) : (wds xs).length = xs.length := by simp [wds]
theorem wds_get {xs : List (Int × Int)} {k : Nat} {p q : Int} (h : xs[k]? = some (p, q)) : (wds xs)[k]? = some (txtFl p q) := by simp [wds, h]
theorem wds_take {xs : List (Int × Int)} {k : Nat} {p q : Int} (h : xs[k]? = some (p, q)) : strL ((wds xs).take k) ++ [Value.string (txtF p q)] = strL ((wds xs).take (k + 1)) := by
  rw [List.take_add_one, wds_get h, txtF_mk]
  simp [strL]
theorem jt_len : ∀ (xs : List (Int × Int)), (∀ x ∈ xs, okB x.1 x.2 = true) → (Lib.joinTail [32] (wds xs)).length ≤ 44 * xs.length
  | [], _ => by simp [wds, Lib.joinTail]
  | x :: r, h => by
    have h1 := txtFl_len (h x (by simp))
    have h2 := jt_len r fun y hy => h y (by simp [hy])
    have e : Lib.joinTail [32] (wds (x :: r)) = 32 :: txtFl x.1 x.2 ++ Lib.joinTail [32] (wds r) := by simp [wds, Lib.joinTail]
    rw [e]
    simp only [List.length_append, List.length_cons]
    omega
set_option maxRecDepth 20000 in
set_option maxHeartbeats 2000000 in
theorem iWords (A : Option Addr) (c n : Nat) (xs : List (Int × Int)) (w : World) (X : Hid (RdF w A xs)) (T : Hid (Pow w)) (hn : xs.length = n) (h2 : 2 ≤ n) (h9 : n ≤ 1000) (hk : ∀ x ∈ xs, okB x.1 x.2 = true) :
    Calls Tryd.prog 44 #[.slice A n c] w fun e w' => e = .returned (.string ⟨(Lib.join (wds xs) [32]).toArray⟩) ∧ Bl w w' := by
  obtain ⟨i0, hi, iz0, iz1, iz2⟩ : ∃ i, Tryd.prog.info? 9 = some i ∧ i.zero = some (.string ⟨#[]⟩) ∧ i.size = 1 ∧ i.bytes = 16 := ⟨_, rfl, by kernel_rfl, rfl, rfl⟩
  have HK := hid hk; have HN := hid hn
  clear hk hn
  go_enter Tryd.func44, Tryd.ntmps44
  go_wp2_with fail
  go_loopw [3, 8] (fun t u wr => ∃ (k : Nat) (A' : Option Addr) (c' : Nat), u = .int .i64 (k : Int) ∧ t = .slice A' k c' ∧ k ≤ n ∧ Gr w wr ∧ wr.ownsRow w.heap.size 9 1 (.slice A' k c') k (strL ((wds xs).take k))) (fun _ u _ => n - (intOf u).toNat)
  case atStart => exact ⟨0, none, 0, rfl, rfl, by omega, Gr.refl _, World.ownsRow_nil _ _ _ _⟩
  case round =>
    obtain ⟨k, A', c', rfl, rfl, hkn, hg, hown⟩ := hrel
    have GW := hid hg; have OWN := hid hown; clear hg hown
    by_cases hlt : k < n
    · obtain ⟨⟨p, q⟩, hp⟩ : ∃ x, xs[k]? = some x := ⟨xs[k]'(by rw [HN.out]; exact hlt), List.getElem?_eq_getElem _⟩
      obtain ⟨ad, rfl, c1, c2⟩ := (X.out.keep GW.out) k p q hp
      have hok := hid (HK.out (p, q) (List.mem_of_getElem? hp))
      have TK := hid (wds_take hp)
      have GF := hid ((Gr.refl wr).al (.cells #[.int .i64 p, .int .i64 q] 23))
      clear hp
      go_wp2_with fail
      refine (iFracText p q _ (hid (T.out.keep (GW.out.trans GF.out))) hok.out).mono ?_
      rintro e w5 ⟨rfl, hg5⟩
      have G5 := hid (GF.out.trans hg5); clear hg5
      have OWN5 := hid (own_gr OWN.out (G5.out.al (.cells #[.string (txtF p q)] 9)))
      have NEW := hid (one_newsS (w := w5.alloc (.cells #[.string (txtF p q)] 9)) (b := w5.heap.size) (alloc1 (Gr.refl _)).1)
      have G6 := hid ((GW.out.trans G5.out).al (.cells #[.string (txtF p q)] 9))
      have hb5 := G6.out.size
      go_wp2_with (at_builtin; refine (wpList_append_gr rfl _ _ 88 rfl w.heap.size 9 i0 (.string ⟨#[]⟩) 1 16 Tryd.underlying88 hi iz0 iz1 iz2 rfl (by decide) _ k _ rfl OWN5.out ⟨w5.heap.size, 0, none⟩ 1 1 [.string (txtF p q)] rfl rfl NEW.out (by simp [Value.oneCell']) (by decide) (by unfold maxLen; omega) (by omega) hb5 ?_))
      intro v' w9 own9 _ _ hgr
      obtain ⟨A2, c2', rfl⟩ := own_form own9
      rw [TK.out] at own9
      have OWN9 := hid own9
      have G9 := hid (hgr _ G6.out (Nat.le_refl _))
      clear own9 hgr
      go_wp2_with fail
      exact ⟨⟨k + 1, A2, c2', by simp, by simp, by omega, G9.out, OWN9.out⟩, by simp [intOf]; omega⟩
    · have hke : k = n := by omega
      subst hke
      have hte : (wds xs).take k = wds xs := List.take_of_length_le (by rw [wds_len, HN.out]; exact Nat.le_refl _)
      have O2 := hid OWN.out
      rw [hte] at O2
      have hcap := own_le O2.out
      obtain ⟨g, cur, rfl, hbg, hcur, hget⟩ := own_openS O2.out (by omega)
      have hB : ((wds xs).map fun d => (⟨d.toArray⟩ : ByteArray)).length = k := by rw [List.length_map, wds_len, HN.out]
      have hL : ((wds xs).map fun d => (⟨d.toArray⟩ : ByteArray)).map (·.data.toList) = wds xs := by
        rw [List.map_map]
        exact (List.map_congr_left fun d _ => rfl).trans (List.map_id _)
      have hjl : (Lib.join (wds xs) [32]).length ≤ 140737488355328 := by
        cases hxs : xs with
        | nil => rw [hxs] at HN; have := HN.out; simp at this; omega
        | cons x r =>
          have e : wds (x :: r) = txtFl x.1 x.2 :: wds r := rfl
          rw [e, Lib.join_cons, List.length_append]
          have q1 := txtFl_len (HK.out x (by rw [hxs]; simp))
          have q2 := jt_len r fun y hy => HK.out y (by rw [hxs]; simp [hy])
          have q3 := HN.out
          rw [hxs] at q3
          simp at q3
          omega
      have HJ := hid (Any.strings_Join_many Tryd.lays156 Tryd.extra156 g 0 c' ((wds xs).map fun d => (⟨d.toArray⟩ : ByteArray)) ⟨#[32]⟩ wr (fun j x hj => by
          rw [List.getElem?_map, Option.map_eq_some_iff] at hj
          obtain ⟨d, hd, rfl⟩ := hj
          rw [Nat.zero_add]
          exact str_cell hcur (hget j d hd)) (ltb hcur) (by rw [hB]; omega) (by rw [hB]; omega) (by rw [hB]; exact hcap) (by rw [hL]; exact hjl))
      rw [hB, hL] at HJ
      clear hte hcap hcur hget hB hL hjl
      go_wp2_with fail
      refine (HJ.out).mono ?_
      rintro e w9 ⟨rfl, hb⟩
      have B9 := hid (Bl.tr GW.out.below hb); clear hb
      go_wp2
      go_ret
      exact ⟨rfl, B9.out⟩
end Go.Proofs.YtpadjkgbeijkpaaDoor
namespace Go.Proofs.YtpadjkgbeijkpaaDoor
open Go.RowKit Go.Sort

/-- The reference's text so far. -/
def scT (a b : Int) (xs : List (Int × Int)) (k : Nat) : ByteArray := ⟨(txtFl a b ++ Lib.joinTail [32] ((wds xs).take k)).toArray⟩
theorem scT_zero (a b : Int) (xs : List (Int × Int)) : scT a b xs 0 = txtF a b := by
  rw [txtF_mk]
  simp [scT, Lib.joinTail]
theorem scT_succ {a b p q : Int} {xs : List (Int × Int)} {k : Nat} (h : xs[k]? = some (p, q)) : scT a b xs k ++ (⟨#[32]⟩ ++ txtF p q) = scT a b xs (k + 1) := by
  unfold scT
  rw [Lib.joinTail_take_succ [32] (wds xs) k _ (wds_get h), txtF_mk, ba_app, ba_app]
  simp
theorem scT_all (a b : Int) (xs : List (Int × Int)) : scT a b xs xs.length = ⟨(Lib.join (wds ((a, b) :: xs)) [32]).toArray⟩ := by
  unfold scT
  have e : wds ((a, b) :: xs) = txtFl a b :: wds xs := rfl
  rw [e, Lib.join_cons, List.take_of_length_le (by rw [wds_len]; exact Nat.le_refl _)]
theorem scT_size {a b : Int} {xs : List (Int × Int)} (k : Nat) (h0 : okB a b = true) (hk : ∀ x ∈ xs, okB x.1 x.2 = true) (hn : xs.length ≤ 1000) : (scT a b xs k).size ≤ 50000 := by
  have h1 := txtFl_len h0
  have e : (wds xs).take k = wds (xs.take k) := by simp [wds, List.map_take]
  have h2 := jt_len (xs.take k) fun x hx => hk x (List.mem_of_mem_take hx)
  have h3 : (xs.take k).length ≤ xs.length := by simp; omega
  show (txtFl a b ++ Lib.joinTail [32] ((wds xs).take k)).toArray.size ≤ 50000
  rw [e]
  simp only [List.size_toArray, List.length_append]
  omega
set_option maxRecDepth 20000 in
set_option maxHeartbeats 2000000 in
theorem sScText (a b : Int) (A : Option Addr) (c j n : Nat) (xs : List (Int × Int)) (w : World) (X1 : Hid (w.heap[j]? = some (.cells #[.int .i64 a, .int .i64 b, .slice A n c] 41))) (X : Hid (RdF w A xs)) (hn : xs.length = n) (h9 : n ≤ 999) (h0 : okB a b = true) (hk : ∀ x ∈ xs, okB x.1 x.2 = true) :
    Calls Tryd.prog 40 #[.pointer (some ⟨j, 0, none⟩)] w fun e w' => e = .returned (.string (scT a b xs n)) ∧ Gr w w' := by
  have HK := hid hk; have HN := hid hn; have H0 := hid h0
  have SZ := hid fun k => scT_size (a := a) (b := b) (xs := xs) k h0 hk (by omega)
  have HZ := hid (scT_zero a b xs)
  clear hk hn h0
  obtain ⟨_, _, _⟩ := cells3 X1.out
  have _ := ltb X1.out
  go_enter Tryd.func40, Tryd.ntmps40
  go_wp2_with fail
  refine (sText a b _ H0.out).mono ?_
  rintro e w1 ⟨rfl, hg1⟩
  have G1 := hid hg1; clear hg1
  have J1 := hid (G1.out.keep X1.out)
  obtain ⟨_, _, _⟩ := cells3 J1.out
  have _ := ltb J1.out
  go_wp2_with fail
  go_loopw [3, 4] (fun t u wr => ∃ (k : Nat), u = .int .i64 (k : Int) ∧ t = .string (scT a b xs k) ∧ k ≤ n ∧ Gr w wr) (fun _ u _ => n - (intOf u).toNat)
  case atStart => exact ⟨0, rfl, by rw [HZ.out], by omega, G1.out⟩
  case round =>
    obtain ⟨k, rfl, rfl, hkn, hg⟩ := hrel
    have GW := hid hg; clear hg
    have J2 := hid (GW.out.keep X1.out)
    obtain ⟨_, _, _⟩ := cells3 J2.out
    have _ := ltb J2.out
    by_cases hlt : k < n
    · obtain ⟨⟨p, q⟩, hp⟩ : ∃ x, xs[k]? = some x := ⟨xs[k]'(by rw [HN.out]; exact hlt), List.getElem?_eq_getElem _⟩
      obtain ⟨ad, rfl, c1, c2⟩ := (X.out.keep GW.out) k p q hp
      have hok := hid (HK.out (p, q) (List.mem_of_getElem? hp))
      have TK := hid (scT_succ (a := a) (b := b) hp)
      have s1 : (txtF p q).size ≤ 43 := by rw [txtF_mk]; show (txtFl p q).toArray.size ≤ 43; simpa using txtFl_len hok.out
      have s2 := SZ.out k
      obtain ⟨S, hS⟩ : ∃ S, scT a b xs k = S := ⟨_, rfl⟩
      rw [hS] at TK s2
      rw [hS]
      clear hp hS
      go_wp2_with fail
      refine (sText p q _ hok.out).mono ?_
      rintro e w5 ⟨rfl, hg5⟩
      have G5 := hid (GW.out.trans hg5); clear hg5
      go_wp2_with fail
      exact ⟨⟨k + 1, by simp, by rw [← TK.out], by omega, G5.out⟩, by simp [intOf]; omega⟩
    · have hke : k = n := by omega
      subst hke
      go_wp2_with fail
      go_ret
      exact ⟨rfl, GW.out⟩
theorem scl_ok {a b : Int} {xs : List (Int × Int)} (h : sclB a b xs = true) : okB a b = true ∧ 2 ≤ xs.length ∧ xs.length ≤ 60 ∧ ∀ x ∈ xs, okB x.1 x.2 = true := by
  unfold sclB at h
  simp only [Bool.and_eq_true] at h
  obtain ⟨h1, h2, h3⟩ := h
  have hl : 2 ≤ xs.length ∧ xs.length ≤ 60 := by unfold inB at h2; simp at h2; omega
  refine ⟨within_ok h1, hl.1, hl.2, fun x hx => ?_⟩
  obtain ⟨i, hi⟩ := List.getElem?_of_mem hx
  exact ((allE_split.1 h3).1 i x.1 x.2 hi).1
set_option maxRecDepth 20000 in
set_option maxHeartbeats 1000000 in
theorem sScaleText_no (a b : Int) (A : Option Addr) (c : Nat) (xs : List (Int × Int)) (w : World) (X : Hid (RdF w A xs)) (hn : xs.length ≤ 1048576) (h : sclB a b xs = false) :
    Calls Tryd.prog 16 #[scl a b A xs.length c] w fun e w' => e = .returned (.string ⟨#[]⟩) ∧ Gr w w' := by
  have HO := hid fun (j : Nat) (w : World) (X1 : Hid (w.heap[j]? = some (.cells #[.int .i64 a, .int .i64 b, .slice A xs.length c] 41))) (X : Hid (RdF w A xs)) => sScF a b A c j xs w X1 X hn h
  clear h
  go_enter Tryd.func16, Tryd.ntmps16
  go_wp2_with fail
  refine (HO.out _ _ (hid (alloc1 (Gr.refl _)).1) (hid (X.out.keep ((Gr.refl w).al _)))).mono ?_
  rintro e w1 ⟨rfl, hg1⟩
  obtain ⟨x1_0, hz1, g1⟩ := alloc1 hg1
  obtain ⟨_, _, _⟩ := cells3 x1_0
  have _ := fz x1_0
  have _ := ltb x1_0
  have X1_0 := hid x1_0; clear x1_0
  have G1 := hid (g1)
  clear hg1 g1
  go_wp2
  go_ret
  exact ⟨rfl, G1.out⟩
set_option maxRecDepth 20000 in
set_option maxHeartbeats 1000000 in
theorem sScaleText_ok (a b : Int) (A : Option Addr) (c : Nat) (xs : List (Int × Int)) (w : World) (X : Hid (RdF w A xs)) (hn : xs.length ≤ 1048576) (h : sclB a b xs = true) :
    Calls Tryd.prog 16 #[scl a b A xs.length c] w fun e w' => e = .returned (.string (scT a b xs xs.length)) ∧ Gr w w' := by
  obtain ⟨k0, k1, k2, k3⟩ := scl_ok h
  have HO := hid fun (j : Nat) (w : World) (X1 : Hid (w.heap[j]? = some (.cells #[.int .i64 a, .int .i64 b, .slice A xs.length c] 41))) (X : Hid (RdF w A xs)) => sScT a b A c j xs w X1 X hn h
  have HT := hid fun (j : Nat) (w : World) (X1 : Hid (w.heap[j]? = some (.cells #[.int .i64 a, .int .i64 b, .slice A xs.length c] 41))) (X : Hid (RdF w A xs)) => sScText a b A c j xs.length xs w X1 X rfl (by omega) k0 k3
  clear h k0 k1 k2 k3
  go_enter Tryd.func16, Tryd.ntmps16
  go_wp2_with fail
  refine (HO.out _ _ (hid (alloc1 (Gr.refl _)).1) (hid (X.out.keep ((Gr.refl w).al _)))).mono ?_
  rintro e w1 ⟨rfl, hg1⟩
  obtain ⟨x1_0, hz1, g1⟩ := alloc1 hg1
  obtain ⟨_, _, _⟩ := cells3 x1_0
  have _ := fz x1_0
  have _ := ltb x1_0
  have X1_0 := hid x1_0; clear x1_0
  have G1 := hid (g1)
  clear hg1 g1
  go_wp2_with fail
  refine (HT.out _ _ (hid X1_0.out) (hid (X.out.keep G1.out))).mono ?_
  rintro e w2 ⟨rfl, hg2⟩
  have x2_1 := hg2.keep X1_0.out
  obtain ⟨_, _, _⟩ := cells3 x2_1
  have _ := fz x2_1
  have _ := ltb x2_1
  have X2_1 := hid x2_1; clear x2_1
  have G2 := hid (G1.out.trans hg2)
  clear hg2
  go_wp2
  go_ret
  exact ⟨rfl, G2.out⟩
set_option maxRecDepth 20000 in
set_option maxHeartbeats 1000000 in
theorem iScaleText_no (a b : Int) (A : Option Addr) (c : Nat) (xs : List (Int × Int)) (w : World) (X : Hid (RdF w A xs)) (hn : xs.length ≤ 1048576) (h : sclB a b xs = false) :
    Calls Tryd.prog 18 #[scl a b A xs.length c] w fun e w' => e = .returned (.string ⟨#[]⟩) ∧ Bl w w' := by
  have HO := hid fun (w : World) (X : Hid (RdF w A xs)) => iScF a b A c xs w X hn h
  clear h
  go_enter Tryd.func18, Tryd.ntmps18
  go_wp2_with fail
  refine (HO.out _ (hid (X.out.keep ((Gr.refl w).al _)))).mono ?_
  rintro e w1 ⟨rfl, hg1⟩
  obtain ⟨x1_0, hz1, g1⟩ := alloc1 hg1
  obtain ⟨_, _, _⟩ := cells3 x1_0
  have _ := fz x1_0
  have _ := ltb x1_0
  have X1_0 := hid x1_0; clear x1_0
  have G1 := hid (g1)
  clear hg1 g1
  go_wp2
  go_ret
  exact ⟨rfl, G1.out.below⟩
set_option maxRecDepth 20000 in
set_option maxHeartbeats 1000000 in
theorem iScaleText_ok (a b : Int) (A : Option Addr) (c : Nat) (xs : List (Int × Int)) (w : World) (X : Hid (RdF w A xs)) (T : Hid (Pow w)) (hn : xs.length ≤ 1048576) (h : sclB a b xs = true) :
    Calls Tryd.prog 18 #[scl a b A xs.length c] w fun e w' => e = .returned (.string (scT a b xs xs.length)) ∧ Bl w w' := by
  obtain ⟨k0, k1, k2, k3⟩ := scl_ok h
  have HO := hid fun (w : World) (X : Hid (RdF w A xs)) => iScT a b A c xs w X hn h
  have HF := hid fun (w : World) (X : Hid (RdF w A xs)) => ifracs a b A c xs w X (by omega)
  have HW := hid fun (A' : Option Addr) (c' : Nat) (w : World) (X : Hid (RdF w A' ((a, b) :: xs))) (T : Hid (Pow w)) => iWords A' c' (1 + xs.length) ((a, b) :: xs) w X T (by simp; omega) (by omega) (by omega) (by
    intro x hx
    rcases List.mem_cons.1 hx with rfl | hx
    · exact k0
    · exact k3 x hx)
  have HE := hid (scT_all a b xs)
  clear h k0 k1 k2 k3
  go_enter Tryd.func18, Tryd.ntmps18
  go_wp2_with fail
  refine (HO.out _ (hid (X.out.keep ((Gr.refl w).al _)))).mono ?_
  rintro e w1 ⟨rfl, hg1⟩
  obtain ⟨x1_0, hz1, g1⟩ := alloc1 hg1
  obtain ⟨_, _, _⟩ := cells3 x1_0
  have _ := fz x1_0
  have _ := ltb x1_0
  have X1_0 := hid x1_0; clear x1_0
  have G1 := hid (g1)
  clear hg1 g1
  go_wp2_with fail
  refine (HF.out _ (hid (X.out.keep G1.out))).mono ?_
  rintro e w2 ⟨A2, c2, rfl, own2, hg2⟩
  have R2 := hid (RdF.of_ownF own2); have G2 := hid (G1.out.trans hg2); clear own2 hg2
  go_wp2_with fail
  refine (HW.out _ _ _ R2 (hid (T.out.keep G2.out))).mono ?_
  rintro e w3 ⟨rfl, hb⟩
  have B3 := hid (Bl.tr G2.out.below hb); clear hb
  go_wp2
  go_ret
  exact ⟨by rw [HE.out]; rfl, B3.out⟩
/-- What ScaleText gives. -/
theorem bothScaleText (a b : Int) (xs : List (Int × Int)) (hn : xs.length ≤ 1048576) : ∃ S : ByteArray,
    (∀ (A : Option Addr) (c : Nat) (w : World), Hid (RdF w A xs) → Calls Tryd.prog 16 #[scl a b A xs.length c] w fun e w' => e = .returned (.string S) ∧ Gr w w') ∧
    (∀ (A : Option Addr) (c : Nat) (w : World), Hid (RdF w A xs) → Hid (Pow w) → Calls Tryd.prog 18 #[scl a b A xs.length c] w fun e w' => e = .returned (.string S) ∧ Bl w w') := by
  cases h : sclB a b xs with
  | false => exact ⟨_, fun A c w X => sScaleText_no a b A c xs w X hn h, fun A c w X _ => iScaleText_no a b A c xs w X hn h⟩
  | true => exact ⟨_, fun A c w X => sScaleText_ok a b A c xs w X hn h, fun A c w X T => iScaleText_ok a b A c xs w X T hn h⟩
end Go.Proofs.YtpadjkgbeijkpaaDoor
