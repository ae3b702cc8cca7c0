/- WALKS: how far the marks of a scale are, of the program (a range over a function whose body may panic). -/
import Derived.Test.YtfkmlgndggnhaaaRgi
import Derived.Test.YtfkmlgndggnhaaaSkh
import Derived.ScopeJumps
import Derived.WalkMore
namespace Go.Proofs.Ytfkmlgndggnhaaa
open Go.RowKit Go.Sort Go.Shelf
attribute [local go_sem] Oper.semAt_some wide_fn

def dP (x y p q : Int) : Int := redP (x * q - p * y) (y * q)
def dQ (x y p q : Int) : Int := redQ (x * q - p * y) (y * q)
/-- Can the distance of x / y and p / q be told? -/
def dB (x y p q : Int) : Bool := okB (dP x y p q) (dQ x y p q)
/-- The distances of x / y and the marks. -/
def dists (x y : Int) (ms : List (Int × Int)) : List (Int × Int) := ms.map fun m => (absI (dP x y m.1 m.2), dQ x y m.1 m.2)
theorem dists_len (x y : Int) (ms : List (Int × Int)) : (dists x y ms).length = ms.length := by simp [dists]
theorem dists_get {x y : Int} {ms : List (Int × Int)} {k : Nat} {p q : Int} (h : ms[k]? = some (p, q)) : (dists x y ms)[k]? = some (absI (dP x y p q), dQ x y p q) := by simp [dists, h]
def AllD (x y : Int) (ms : List (Int × Int)) : Prop := ∀ (k : Nat) (p q : Int), ms[k]? = some (p, q) → dB x y p q = true
theorem mks_ok {a b : Int} {xs : List (Int × Int)} (h : AllMk a b xs) {k : Nat} {p q : Int} (hk : (mks a b xs)[k]? = some (p, q)) : okB p q = true := by
  unfold mks at hk
  rw [List.getElem?_mapIdx] at hk
  obtain ⟨⟨u, v⟩, hu, he⟩ := Option.map_eq_some_iff.1 hk
  have h1 := h k u v hu
  simp only [Prod.mk.injEq] at he
  obtain ⟨rfl, rfl⟩ := he
  unfold mkB at h1
  simp only [Bool.and_eq_true] at h1
  exact h1.2
theorem minusd_t (x y p q : Int) (w : World) (h1 : okB x y = true) (h2 : okB p q = true) (h : dB x y p q = true) :
    Calls Try.prog 123 #[fr x y, fr p q] w fun e w' => e = .returned (fr (dP x y p q) (dQ x y p q)) ∧ Gr w w' := minus_yes x y p q w h1 h2 h
theorem minusd_f (x y p q : Int) (w : World) (h1 : okB x y = true) (h2 : okB p q = true) (h : dB x y p q = false) :
    Calls Try.prog 123 #[fr x y, fr p q] w fun e w' => (∃ x y, e = .panicked [{ v := .iface 125 (fr x y), recovered := false }]) ∧ Gr w w' := minus_no x y p q w h1 h2 h

set_option maxRecDepth 20000 in
set_option maxHeartbeats 1000000 in
theorem marks_handsP (n : Nat) (hn : 1 ≤ n) (a b : Int) (A : Option Addr) (c Bs : Nat) (xs : List (Int × Int)) (I : Nat → World → Prop) (w : World) (hl : xs.length ≤ 60) (h1 : okB a b = true) (hx : xs.all (fun x => okB x.1 x.2) = true)
    (hI : ∀ k W, I k W → W.heap[Bs]? = some (.cells #[.int .i64 a, .int .i64 b, .slice A xs.length c] 32) ∧ RdF W A xs)
    (hS : AllMk a b xs) :
    HandsP Fence.wide n Try.prog 110 #[.pointer (some ⟨Bs, 0, none⟩)] (encF (mks a b xs)) xs.length I w := by
  intro l J T W1 _ hJg hJI hY h0
  have HX := hid hx; have H1 := hid h1; have HY := hid hY; have HJG := hid hJg; have HS := hid hS
  have HI := hid (fun k W h => hI k W (hJI k W h))
  clear hx h1 hY hJg hJI hI hS
  have hb0 := (HI.out 0 W1 h0).1
  obtain ⟨_, _, _⟩ := cells3 hb0
  refine callsIn_of_wp Try.func110 rfl trivial ?_ rfl
  simp only [Try.ntmps110, List.size_toArray, List.length_cons, List.length_nil, Nat.reduceAdd, Nat.reduceSub, Array.replicate_succ, Array.replicate_zero, List.push_toArray, List.append_toArray, List.nil_append, List.cons_append]
  gi_wp2
  gi_loopw [7] (fun u wr => ∃ k : Nat, k ≤ xs.length ∧ u = .int .i64 k ∧ J k wr)
    (fun u _ => xs.length - (intOf u).toNat)
  case atStart => exact ⟨0, Nat.zero_le _, rfl, h0⟩
  case round =>
    obtain ⟨k, hk, rfl, hJ⟩ := hrel
    obtain ⟨hb1, hr1⟩ := HI.out k wr hJ
    obtain ⟨_, _, _⟩ := cells3 hb1
    have HJ := hid hJ; have HR := hid hr1
    clear hJ hr1
    by_cases hlt : k < xs.length
    · obtain ⟨⟨p, q⟩, hpq⟩ : ∃ pq, xs[k]? = some pq := ⟨xs[k], List.getElem?_eq_getElem _⟩
      have HPQ := hid hpq
      have ht := hid (ok_whole (t := k) (by omega) (by omega))
      have h2 := hid (all_get hpq HX.out)
      have HM := hid (HS.out k p q hpq)
      clear hpq
      gi_wp2_with fail
      refine (callsIn_wide.2 (imark_yes a b A c k xs p q _ HR HPQ.out (by omega) H1.out ht.out h2.out HM.out)).mono ?_
      rintro e w2 ⟨rfl, hg2⟩
      have hJ2 := HJG.out k _ _ HJ.out hg2
      obtain ⟨fn, tmps, assign, body, hy, hR⟩ := HY.out k w2 hJ2 hlt
      rw [encF_mks HPQ.out] at hy
      clear hg2 hJ2
      gi_wp2
      refine hR.mono ?_
      rintro e W3 (⟨rfl, hJ3⟩ | ⟨ch, rfl, hT⟩)
      · gi_wp2
        go_roundw
        case rel => exact ⟨k + 1, by omega, by simp, hJ3⟩
        case measure => simp [intOf]; omega
      · exact ⟨rfl, .inr ⟨ch, rfl, hT⟩⟩
    · have hke : k = xs.length := by omega
      subst hke
      gi_wp2
      go_end0
      exact .inl ⟨⟨_, rfl⟩, HJ.out⟩

/-- What 'distances' holds at the mark k. -/
def DInv (w0 : World) (Bz : Nat) (a b x y : Int) (A : Option Addr) (c : Nat) (xs : List (Int × Int)) (ms : List (Int × Int)) (k : Nat) (W : World) : Prop :=
  Gr w0 W ∧ RdF W A xs ∧ W.heap[w0.heap.size + 3]? = some (.cells #[.int .i64 a, .int .i64 b, .slice A xs.length c] 32) ∧
    W.heap[w0.heap.size + 1]? = some (.cells #[.int .i64 x, .int .i64 y] 29) ∧
    (∃ v, W.heap[w0.heap.size + 2]? = some (.cells #[v] 30) ∧ W.ownsRow Bz 29 2 v k (flatL ((dists x y ms).take k))) ∧
    ∀ (i : Nat) (p q : Int), i < k → ms[i]? = some (p, q) → dB x y p q = true
theorem RdF.put {W : World} {A : Option Addr} {xs : List (Int × Int)} {r : Nat} {o : Obj} (o' : Obj) (h : RdF W A xs) (hr : W.heap[r]? = some o) (hc : o.isCells = false) : RdF (W.putObj r o') A xs := fun k p q hk => by
  obtain ⟨ad, he, h1, h2⟩ := h k p q hk
  have key : ∀ (ad : Addr) (v : Value), W.cell? ad = some v → (W.putObj r o').cell? ad = some v := fun ad v h => by
    have hne : ad.block ≠ r := by
      rintro rfl
      unfold World.cell? at h
      rw [hr] at h
      cases o <;> first | (simp at h; done) | cases hc
    unfold World.cell? at h ⊢
    rw [World.putObj_heap_other hne]
    exact h
  exact ⟨ad, he, key _ _ h1, key _ _ h2⟩
theorem nodefer {ops : Array Oper} (h : ops.all (fun o => match o.op with | .defer _ => false | _ => true) = true) : ∀ (i : Nat) (o : Oper), ops[i]? = some o → ∀ c, o.op ≠ .defer c := by
  intro i o ho c hc
  have := Array.all_eq_true_iff_forall_mem.1 h o (Array.mem_of_getElem? ho)
  rw [hc] at this
  cases this
theorem DInv.gr {w0 : World} {Bz : Nat} {a b x y : Int} {A : Option Addr} {c : Nat} {xs ms : List (Int × Int)} {k : Nat} {W W' : World} (h : DInv w0 Bz a b x y A c xs ms k W) (hg : Gr W W') : DInv w0 Bz a b x y A c xs ms k W' := by
  obtain ⟨h1, h2, h3, h4, ⟨v, h5, h6⟩, h7⟩ := h
  exact ⟨h1.trans hg, h2.keep hg, hg.keep h3, hg.keep h4, ⟨v, hg.keep h5, own_keep h6 hg⟩, h7⟩
theorem DInv.put {w0 : World} {Bz : Nat} {a b x y : Int} {A : Option Addr} {c : Nat} {xs ms : List (Int × Int)} {k : Nat} {W : World} (h : DInv w0 Bz a b x y A c xs ms k W) {r : Nat} {o : Obj} (o' : Obj) (hr : W.heap[r]? = some o) (hc : o.isCells = false) (hle : w0.heap.size ≤ r) : DInv w0 Bz a b x y A c xs ms k (W.putObj r o') := by
  obtain ⟨h1, h2, h3, h4, ⟨v, h5, h6⟩, h7⟩ := h
  exact ⟨h1.putObj hle _, h2.put _ hr hc, heap_put _ h3 hr hc, heap_put _ h4 hr hc, ⟨v, heap_put _ h5 hr hc, own_put h6 _ hr hc⟩, h7⟩
theorem own_baseF {w : World} {base base' : Nat} {e : TypeId} {size n : Nat} {v : Value} {xs : List Value} (h : w.ownsRow base e size v n xs) (hb : base' ≤ base) : w.ownsRow base' e size v n xs := by
  refine ⟨h.1, ?_⟩
  rcases h.2 with h0 | ⟨g, cap, cur, h1, h2, h3, h4⟩
  · exact .inl h0
  · exact .inr ⟨g, cap, cur, h1, by omega, h3, h4⟩
/-- How 'distances' ends. -/
def distPost (x y : Int) (ms : List (Int × Int)) (w : World) (e : Ending) (w' : World) : Prop :=
  Gr w w' ∧ ((AllD x y ms ∧ ∃ v, e = .returned v ∧ w'.ownsRow w.heap.size 29 2 v ms.length (flatL (dists x y ms))) ∨ (¬ AllD x y ms ∧ ∃ ch, e = .panicked ch ∧ TooGreat ch))

set_option maxRecDepth 100000 in
set_option maxHeartbeats 2000000 in
theorem idist (a b x y : Int) (A : Option Addr) (c : Nat) (xs ms : List (Int × Int)) (hms : mks a b xs = ms) (w : World) (X : Hid (RdF w A xs)) (hl : xs.length ≤ 60) (h1 : okB a b = true) (hx : xs.all (fun x => okB x.1 x.2) = true) (hxy : okB x y = true) (hm : AllMk a b xs) :
    Calls Try.prog 79 #[scl a b A xs.length c, fr x y] w (distPost x y ms w) := by
  have hlen : ms.length = xs.length := by rw [← hms, mks_len]
  have HOK := hid (fun (k : Nat) (p q : Int) (h : ms[k]? = some (p, q)) => mks_ok hm (hms ▸ h))
  have HH : Hid (∀ (I : Nat → World → Prop) (w1 : World) (Bs : Nat), (∀ k W, I k W → W.heap[Bs]? = some (.cells #[.int .i64 a, .int .i64 b, .slice A xs.length c] 32) ∧ RdF W A xs) → HandsP Fence.wide 4 Try.prog 110 #[.pointer (some ⟨Bs, 0, none⟩)] (encF ms) xs.length I w1) := hid fun I w1 Bs hI => hms ▸ marks_handsP 4 (by omega) a b A c Bs xs I w1 hl h1 hx hI hm
  have HXY := hid hxy
  clear h1 hx hm hxy
  obtain ⟨i0, hi, hz0, hz1, hz2⟩ : ∃ i, Try.prog.info? 29 = some i ∧ i.zero = some (fr 0 0) ∧ i.size = 2 ∧ i.bytes = 16 := ⟨_, rfl, rfl, rfl, rfl⟩
  have HI0 := hid hi
  clear hi
  refine (callsIn_wide (n := 5)).1 (callsIn_of_wpF_marks Try.func79 rfl trivial ?_ rfl)
  simp only [Try.ntmps79, List.size_toArray, List.length_cons, List.length_nil, Nat.reduceAdd, Nat.reduceSub, Array.replicate_succ, Array.replicate_zero, List.push_toArray, List.append_toArray, List.nil_append, List.cons_append]
  refine wpF_seq (wpF_of ?_)
  gi_wp2
  refine wpF_seq (wpF_of ?_)
  gi_wp2
  refine wpF_seq (wpF_seq (wpF_of ?_))
  gi_wp2_with fail
  refine (callsIn_wide.2 (imarks a b A xs.length c _)).mono ?_
  rintro e w1 ⟨rfl, xb, hg⟩
  have hsz : w.heap.size + 4 ≤ w1.heap.size := by
    have := ltb xb
    simp at this
    omega
  have hgw : Gr w w1 := ((((Gr.refl _).al _).al _).al _).trans hg
  have hx1 : w1.heap[w.heap.size + 1]? = some (.cells #[.int .i64 x, .int .i64 y] 29) := hg.keep (((alloc1 (A := .cells #[.int .i64 x, .int .i64 y] 29) (w := w.alloc (.cells #[.int .i64 a, .int .i64 b, .slice A xs.length c] 32)) (Gr.refl _)).1 |> fun h => (by simpa using h)) |> fun h => ((Gr.refl _).al _).keep h)
  have hx2 : w1.heap[w.heap.size + 2]? = some (.cells #[.slice none 0 0] 30) := hg.keep (by simpa using (alloc1 (A := .cells #[.slice none 0 0] 30) (w := (w.alloc (.cells #[.int .i64 a, .int .i64 b, .slice A xs.length c] 32)).alloc (.cells #[.int .i64 x, .int .i64 y] 29)) (Gr.refl _)).1)
  have hx3 : w1.heap[w.heap.size + 3]? = some (.cells #[.int .i64 a, .int .i64 b, .slice A xs.length c] 32) := by simpa using xb
  have h0 : DInv w w1.heap.size a b x y A c xs ms 0 w1 := ⟨hgw, X.out.keep hgw, hx3, hx1, ⟨_, hx2, ⟨by simp [flatL], .inl ⟨rfl, rfl⟩⟩⟩, fun i p q h => by omega⟩
  have H0 := hid h0
  clear xb hg hx1 hx2 hx3 h0
  gi_wp2
  refine wpF_block (wpF_rangeFunc_gr Try.func79 trivial rfl (by omega) (gf := 110) (lb := #[.pointer (some ⟨w.heap.size + 3, 0, none⟩)]) rfl trivial (fun _ _ => by kernel_rfl)
    (DInv w w1.heap.size a b x y A c xs ms) (fun ch W => Gr w W ∧ TooGreat ch ∧ ¬ AllD x y ms) (HH.out _ _ _ (fun k W h => ⟨h.2.2.1, h.2.1⟩)) (fun _ => rfl) ?_ ?_ H0.out ?round ?done ?pan)
  · exact fun k W W' h hg => h.gr hg
  · exact fun k W r o o' h hr hc hle => h.put _ hr hc (by omega)
  case round =>
    rintro l k W ⟨hg, hrd, hsc, hxb, ⟨v, hb, ho⟩, hall⟩ hk hsz2
    obtain ⟨⟨p, q⟩, hpq⟩ : ∃ pq, ms[k]? = some pq := ⟨ms[k]'(by omega), List.getElem?_eq_getElem _⟩
    have he : encF ms k = #[fr p q] := by unfold encF; rw [List.getD_eq_getElem?_getD, hpq]; rfl
    rw [he]
    simp only [List.zip_toArray, List.zip_cons_cons, List.zip_nil_right, List.foldl_toArray, List.foldl_cons, List.foldl_nil]
    have HPQ := hid hpq; have HALL := hid hall
    have hinv : DInv w w1.heap.size a b x y A c xs ms k W := ⟨hg, hrd, hsc, hxb, ⟨v, hb, ho⟩, hall⟩
    have HINV := hid hinv
    have hok := HOK.out k p q hpq
    have HOKP := hid hok
    clear hg hrd hsc hxb hb ho hpq he hall hinv hok
    gi_wp2
    refine ⟨KeepsOthers.alloc _ _, fun o o' ho hc => ?_⟩
    obtain ⟨W2, hW2⟩ : ∃ W2, W.alloc (.cells #[.int .i64 p, .int .i64 q] 29) = W2 := ⟨_, rfl⟩
    obtain ⟨Wb, hWb⟩ : ∃ Wb, W2.putObj (w1.heap.size + 1) o' = Wb := ⟨_, rfl⟩
    rw [hW2] at ho
    have hg2 : Gr W W2 := by rw [← hW2]; exact Gr.alloc _ _
    have hib : DInv w w1.heap.size a b x y A c xs ms k Wb := by rw [← hWb]; exact (HINV.out.gr hg2).put _ ho hc (by omega)
    have hvb : Wb.heap[W.heap.size]? = some (.cells #[.int .i64 p, .int .i64 q] 29) := by rw [← hWb, ← hW2]; exact heap_put _ (alloc1 (Gr.refl _)).1 (hW2 ▸ ho) hc
    have hszw : w1.heap.size < Wb.heap.size := by rw [← hWb, ← hW2]; simp; omega
    rw [hW2, hWb]
    obtain ⟨hgb, hrb, hsb, hxb, ⟨v, hbb, hob⟩, _⟩ := hib
    have HGB := hid hgb; have HRB := hid hrb; have HSB := hid hsb; have HXB := hid hxb; have HBB := hid hbb; have HOB := hid hob; have HVB := hid hvb
    clear hgb hrb hsb hxb hbb hob hvb hWb hW2 ho hc hg2
    have hszb := HGB.out.size
    refine wpIn_block ?_
    cases hd : dB x y p q with
    | true =>
      have HD := hid hd; clear hd
      have HDO := hid (show okB (dP x y p q) (dQ x y p q) = true from HD.out)
      refine region_round (by kernel_rfl) (nodefer (by kernel_rfl)) (fun ⟨_, _, h⟩ => h) (any_regA (b0 := .cells #[.int .i64 (absI (dP x y p q)), .int .i64 (dQ x y p q)] 29) (fun b => .slice (some ⟨b, 0, none⟩) 1 1) 6 5 15 (by kernel_rfl) rfl rfl (by simp) ?_)
      apply Exists.intro
      refine ⟨fun wb hb => ?_, fun w' => ?_, ?_⟩
      · obtain ⟨_, _⟩ := hb.at2 HXB.out
        obtain ⟨_, _⟩ := hb.at2 HVB.out
        have _ := hb.at1 HBB.out
        simp only [headOps, List.contains, List.elem, Nat.reduceAdd, Nat.reduceBEq, reduceIte, Bool.false_eq_true, dumOp]
        repeat (first | go_big_quiet_step (first | (go_at_call 123; exact Calls.of_gr (minusd_t x y p q _ HXY.out HOKP.out HD.out)) | (go_at_call 107; exact Calls.of_gr (isize_gr _ _ _ HDO.out))) | quiet_step (fail))
        exact wpQuiet_nil rfl
      · kernel_rfl
      intro w3 nb hg3 hb3 xb
      simp only [List.drop_succ_cons, List.drop_zero]
      obtain ⟨P2, hP2⟩ : ∃ P2, absI (dP x y p q) = P2 := ⟨_, rfl⟩
      obtain ⟨Q2, hQ2⟩ : ∃ Q2, dQ x y p q = Q2 := ⟨_, rfl⟩
      have HDG : Hid ((dists x y ms)[k]? = some (P2, Q2)) := hid (by rw [← hP2, ← hQ2]; exact dists_get HPQ.out)
      rw [hP2, hQ2] at xb
      have hbl3 := hg3.keep HBB.out
      have hk60 : k < 60 := by omega
      refine wpList_append_gr rfl _ _ 30 rfl w1.heap.size 29 i0 (fr 0 0) 2 16 Try.underlying30 HI0.out hz0 hz1 hz2 rfl (by decide) v k _ rfl (own_keep HOB.out hg3) ⟨nb, 0, none⟩ 1 1 [.int .i64 P2, .int .i64 Q2] rfl rfl ?_ ?_ (by decide) ?_ ?_ ?_ ?_
      · intro j u hj
        obtain ⟨n0, n1⟩ := cells2 xb
        match j with
        | 0 => simp at hj; subst hj; exact n0
        | 1 => simp at hj; subst hj; exact n1
        | j + 2 => simp at hj
      · intro u hu
        simp at hu
        rcases hu with rfl | rfl <;> rfl
      · unfold maxLen; omega
      · omega
      · have := hg3.size; omega
      · intro v' w' hown' hgrow _ hgr
        obtain ⟨g', cap', cur', rfl, hbase', hgb', _⟩ : ∃ g' cap' cur', v' = .slice (some ⟨g', 0, none⟩) (k + 1) cap' ∧ w1.heap.size ≤ g' ∧ w'.heap[g']? = some (.cells cur' 29 (0, 0)) ∧ k + 1 ≤ cap' := by
          rcases hown'.2 with ⟨_, h0⟩ | ⟨g', cap', cur', h1, h2, h3, h4, _⟩
          · exact absurd h0 (by omega)
          · exact ⟨g', cap', cur', h1, h2, h3, h4⟩
        have hrow : ∀ (j : Nat) (o : Obj), v.ownBlock = some j → w3.heap[j]? = some o → ∃ cur, o = .cells cur 29 (0, 0) := by
          intro j o hj ho
          rcases (own_keep HOB.out hg3).2 with ⟨rfl, _⟩ | ⟨g, cap, cur, rfl, _, hgb, _⟩
          · simp [Value.ownBlock] at hj
          · have : g = j := by simpa [Value.ownBlock] using hj
            subst this
            rw [hgb] at ho
            exact ⟨cur, (Option.some.inj ho).symm⟩
        have hkeepB : ∀ (r : Nat) (o : Obj), r < w1.heap.size → Wb.heap[r]? = some o → w'.heap[r]? = some o := fun r o hr h0 => by
          have h0 := hg3.keep h0
          refine (hgrow.block r (Array.getElem?_eq_some_iff.1 h0).1 ?_).trans h0
          rcases (own_keep HOB.out hg3).2 with ⟨rfl, _⟩ | ⟨g, cap, cur, rfl, hgl, _⟩
          · simp [Value.ownBlock]
          · simp [Value.ownBlock]
            omega
        have hG3 : Gr w w' := hgr w (HGB.out.trans hg3) (by omega)
        have hko : KeepsOthers Wb w' := hg3.others.trans (KeepsOthers.of_grownBy hgrow (fun j o hj ho => by obtain ⟨cur, rfl⟩ := hrow j o hj ho; rfl))
        have hbw := hkeepB _ _ (by omega) HBB.out
        have hxw := hkeepB _ _ (by omega) HXB.out
        have hsw := hkeepB _ _ (by omega) HSB.out
        have _ := cells1 hbw
        have _ := fz hbw
        have HOWN := hid hown'; have HBW := hid hbw; have HXW := hid hxw; have HSW := hid hsw; have HG3 := hid hG3; have HKO := hid hko
        have hne : g' ≠ w.heap.size + 2 := by omega
        clear hown' hgrow hgr hrow hkeepB hbw hxw hsw hG3 hko hgb' hg3 hbl3 xb hb3
        go_wp2_with fail
        refine ⟨HKO.out.trans (KeepsOthers.setCell _ _ _), HG3.out.setCell (by first | omega | (simp; done) | (simp; omega)) _, X.out.keep (HG3.out.setCell (by first | omega | (simp; done) | (simp; omega)) _), keepSet' HSW.out (by first | omega | (simp; done) | (simp; omega)), keepSet' HXW.out (by first | omega | (simp; done) | (simp; omega)), ⟨_, by simpa using Joins.block_setCell (i := 0) HBW.out (.slice (some ⟨g', 0, none⟩) (k + 1) cap'), ?_⟩, fun i p' q' hi hp' => ?_⟩
        · rw [List.take_add_one, HDG.out, Option.toList_some, flatL_append, flatL_one]
          refine ⟨HOWN.out.1, ?_⟩
          rcases HOWN.out.2 with h | ⟨g2, cap2, cur2, h1, h2, h3, h4⟩
          · exact .inl h
          · refine .inr ⟨g2, cap2, cur2, h1, h2, ?_, h4⟩
            have : g' = g2 := by injection h1 with e1; injection e1 with e2; injection e2
            subst this
            exact keepSet' h3 hne
        · by_cases he : i = k
          · subst he
            have := HPQ.out
            rw [hp'] at this
            cases this
            exact HD.out
          · exact HALL.out i p' q' (by omega) hp'
    | false =>
      have HD := hid hd; clear hd
      refine region_round (by kernel_rfl) (nodefer (by kernel_rfl)) (fun ⟨_, _, h⟩ => h) (any_regP 3 [4, 5, 6, 7] (by kernel_rfl) rfl ?_)
      apply Exists.intro
      refine ⟨123, #[fr x y, fr p q], fun wb hb => ?_, ?_⟩
      · obtain ⟨_, _⟩ := hb.at2 HXB.out
        obtain ⟨_, _⟩ := hb.at2 HVB.out
        have _ := hb.at1 HBB.out
        simp only [headOps, List.contains, List.elem, List.length_cons, List.length_nil, Nat.zero_add, Nat.reduceAdd, Nat.reduceBEq, reduceIte, Bool.false_eq_true, dumOp]
        repeat (first | go_big_quiet_step (first | (fail)) | quiet_step (fail))
        exact wpQuiet_nil rfl
      refine ⟨fun w' => by kernel_rfl, fun w' hg' => (minusd_f x y p q _ HXY.out HOKP.out HD.out).mono fun e w2 ⟨⟨u, v, he⟩, hg2⟩ => ⟨_, he, fun a' ha' => ⟨ha', (hg'.trans hg2).others, HGB.out.trans (hg'.trans hg2), ⟨u, v, rfl⟩, fun h => ?_⟩⟩⟩
      have := h k p q HPQ.out
      rw [HD.out] at this
      cases this
  case done =>
    rintro W ⟨hg, _, _, _, ⟨v, hb, ho⟩, hall⟩ hD
    have _ := cells1 hb
    have hne : w.heap.size + 2 < w1.heap.size := by omega
    have HALL : Hid (AllD x y ms) := hid fun k p q h => hall k p q (by have := (List.getElem?_eq_some_iff.1 h).1; omega) h
    rw [← hlen, ← dists_len x y ms, List.take_length, dists_len, hlen] at ho
    have HG := hid hg; have HO := hid ho; have HD := hid hD
    clear hg hb ho hD hall
    refine wpF_seq (wpF_of ?_)
    gi_wp2
    refine wpF_of ?_
    gi_wp2
    refine ⟨by simp, .inl ⟨_, _, rfl, run_takeDeferred HD.out, ?_⟩⟩
    exact ⟨_, results_tmp rfl _ _ _, HG.out.putObj (by omega) _, .inl ⟨HALL.out, _, rfl, own_baseF (own_put (hlen ▸ HO.out) _ HD.out rfl) (by omega)⟩⟩
  case pan =>
    rintro ch W ⟨hg, ht, hn⟩ hD
    refine ⟨by simp, .inl ⟨_, _, rfl, run_takeDeferred hD, ?_⟩⟩
    exact ⟨hg.putObj (by omega) _, .inr ⟨hn, ch, rfl, ht⟩⟩
end Go.Proofs.Ytfkmlgndggnhaaa
namespace Go.Proofs.Ytfkmlgndggnhaaa
open Go.RowKit Go.Sort

/-- As Q; by a goto to label l: J; to label l1: K. -/
def jump2 (l l1 : Nat) (J K : Act → World → Prop) (Q : Exit → Act → World → Prop) : Exit → Act → World → Prop
  | .goto l', a, w => (l' = l ∧ J a w) ∨ (l' = l1 ∧ K a w)
  | e, a, w => Q e a w
section
variable {P : Program} {a : Act} {w : World} {Q : Exit → Act → World → Prop}
@[go_sem] theorem jump2_normal (l l1 : Nat) (J K : Act → World → Prop) (a : Act) (w : World) : jump2 l l1 J K Q .normal a w = Q .normal a w := rfl
@[go_sem] theorem jump2_ret (l l1 : Nat) (J K : Act → World → Prop) (a : Act) (w : World) : jump2 l l1 J K Q .ret a w = Q .ret a w := rfl
@[go_sem] theorem jump1_normal (l : Nat) (J : Act → World → Prop) (a : Act) (w : World) : Exit.jump l J Q .normal a w = Q .normal a w := rfl
@[go_sem] theorem jump1_ret (l : Nat) (J : Act → World → Prop) (a : Act) (w : World) : Exit.jump l J Q .ret a w = Q .ret a w := rfl
theorem jump1_mono {l : Nat} {J J' : Act → World → Prop} (h : ∀ a w, J a w → J' a w) (e : Exit) (a : Act) (w : World) (hq : Exit.jump l J Q e a w) : Exit.jump l J' Q e a w := by
  cases e <;> first | exact hq | exact ⟨hq.1, h _ _ hq.2⟩
/-- A loop of a label and gotos: from each pass at label l the run comes to l again, maybe by way of l1. -/
theorem wp_scope_loop2 {x rest rest0 rest1 : Code} (l l1 : Nat) (J : Act → World → Prop) (μ : Act → World → Nat)
    (hf : findLabel (x.seq ((Code.label l).seq rest)) l = some rest0) (h0 : rest0 = Code.skip.seq rest) (hf1 : findLabel (x.seq ((Code.label l).seq rest)) l1 = some rest1)
    (first : x.wp P (Exit.then J fun _ _ _ => False) a w)
    (pass : ∀ a w, J a w → rest.wp P (jump2 l l1 (fun a' w' => J a' w' ∧ μ a' w' < μ a w) (fun a' w' => rest1.wp P (Exit.jump l (fun a'' w'' => J a'' w'' ∧ μ a'' w'' < μ a w) Q) a' w') Q) a w) : (Code.scope (x.seq ((Code.label l).seq rest))).wp P Q a w := by
  subst h0
  intro b k cs
  obtain ⟨c, hc⟩ : ∃ c, c = x.seq ((Code.label l).seq rest) := ⟨_, rfl⟩
  have hg : gotoIn l (.inScope c :: k) = some (.code (Code.skip.seq rest) :: .inScope c :: k) := by rw [hc]; simp [gotoIn, hf]
  have hg1 : gotoIn l1 (.inScope c :: k) = some (.code rest1 :: .inScope c :: k) := by rw [hc]; simp [gotoIn, hf1]
  rw [← hc]
  have key : ∀ n a w, μ a w = n → J a w → ∃ e a' w', Q e a' w' ∧ Arrives P (lone (b.at a (.code rest :: .inScope c :: k)) cs w) b k cs e a' w' := by
    intro n
    induction n using Nat.strongRecOn with
    | _ n ih =>
      intro a w hn hJ
      have again : ∀ a₁ w₁, J a₁ w₁ → μ a₁ w₁ < μ a w → ∃ e a' w', Q e a' w' ∧ Arrives P (lone (b.at a₁ (.code (Code.skip.seq rest) :: .inScope c :: k)) cs w₁) b k cs e a' w' := by
        intro a₁ w₁ hJ' hlt
        obtain ⟨e₂, a₂, w₂, hq₂, harr₂⟩ := ih _ (by omega) a₁ w₁ rfl hJ'
        exact ⟨e₂, a₂, w₂, hq₂, .of_steps (.head step_seq (.one step_skip)) harr₂⟩
      obtain ⟨e, a₁, w₁, hq, harr⟩ := pass a w hJ b (.inScope c :: k) cs
      cases e with
      | normal => exact ⟨.normal, a₁, w₁, hq, Steps.trans harr (.one step_inScope)⟩
      | exit id => exact ⟨.exit id, a₁, w₁, hq, fun k' hk => harr k' (by simp [exitTo, hk])⟩
      | goto l' =>
        rcases hq with ⟨rfl, hJ', hlt⟩ | ⟨rfl, hK⟩
        · obtain ⟨e₂, a₂, w₂, hq₂, harr₂⟩ := again a₁ w₁ hJ' hlt
          exact ⟨e₂, a₂, w₂, hq₂, .of_steps (harr _ hg) harr₂⟩
        · obtain ⟨e₃, a₃, w₃, hq₃, harr₃⟩ := hK b (.inScope c :: k) cs
          cases e₃ with
          | normal => exact ⟨.normal, a₃, w₃, hq₃, .of_steps (harr _ hg1) (Steps.trans harr₃ (.one step_inScope))⟩
          | exit id => exact ⟨.exit id, a₃, w₃, hq₃, .of_steps (harr _ hg1) (fun k' hk => harr₃ k' (by simp [exitTo, hk]))⟩
          | goto l' =>
            obtain ⟨rfl, hJ', hlt⟩ := hq₃
            obtain ⟨e₂, a₂, w₂, hq₂, harr₂⟩ := again a₃ w₃ hJ' hlt
            exact ⟨e₂, a₂, w₂, hq₂, .of_steps (harr _ hg1) (.of_steps (harr₃ _ hg) harr₂)⟩
          | ret => exact ⟨_, a₃, w₃, hq₃, .of_steps (harr _ hg1) harr₃⟩
          | panic ch => exact ⟨_, a₃, w₃, hq₃, .of_steps (harr _ hg1) harr₃⟩
          | outgrown => exact ⟨_, a₃, w₃, hq₃, .of_steps (harr _ hg1) harr₃⟩
      | ret => exact ⟨_, a₁, w₁, hq, harr⟩
      | panic ch => exact ⟨_, a₁, w₁, hq, harr⟩
      | outgrown => exact ⟨_, a₁, w₁, hq, harr⟩
  obtain ⟨e, a₁, w₁, hq, harr⟩ := first b (.code ((Code.label l).seq rest) :: .inScope c :: k) cs
  cases e with
  | normal =>
    obtain ⟨e₂, a₂, w₂, hq₂, harr₂⟩ := key _ a₁ w₁ rfl hq
    refine ⟨e₂, a₂, w₂, hq₂, .of_steps ?_ harr₂⟩
    refine .head step_scope ?_
    rw [hc]
    refine .head step_seq (Steps.trans (hc ▸ harr) (.head step_seq (.one step_label)))
  | _ => exact hq.elim
end

/-- The first least one of L, b being the one of those before n, P / Q. -/
def fl : List (Int × Int) → Nat → Nat → Int → Int → Nat × (Int × Int)
  | [], _, b, P, Q => (b, P, Q)
  | x :: r, n, b, P, Q => if cmpI x.1 x.2 P Q < 0 then fl r (n + 1) n x.1 x.2 else fl r (n + 1) b P Q
theorem fl_step {L : List (Int × Int)} {n b : Nat} {p q P Q : Int} (h : L[n]? = some (p, q)) : fl (L.drop n) n b P Q = if cmpI p q P Q < 0 then fl (L.drop (n + 1)) (n + 1) n p q else fl (L.drop (n + 1)) (n + 1) b P Q := by
  have hk : n < L.length := (List.getElem?_eq_some_iff.1 h).1
  have e : L[n] = (p, q) := (List.getElem?_eq_some_iff.1 h).2
  rw [List.drop_eq_getElem_cons hk, e]
  rfl
/-- What 'firstLeast' holds at its label. -/
def FLJ (A : Option Addr) (c : Nat) (L : List (Int × Int)) (R : Nat) (w : World) (a' : Act) (w' : World) : Prop :=
  Gr w w' ∧ ∃ (u1 : Value) (b n : Nat) (P Q : Int) (u5 u6 u7 u8 u9 u10 u11 u12 u13 u14 u15 u16 u17 u18 u19 u20 u21 u22 : Value), a' = { tmps := #[.slice A L.length c, u1, .int .i64 0, .int .i64 (b : Int), .int .i64 (n : Int), u5, u6, u7, u8, u9, u10, u11, u12, u13, u14, u15, u16, u17, u18, u19, u20, u21, u22], defers := [] } ∧ b < L.length ∧ n ≤ L.length ∧ L[b]? = some (P, Q) ∧ (fl (L.drop n) n b P Q).1 = R
set_option maxRecDepth 20000 in
set_option maxHeartbeats 1000000 in
theorem ifirst (A : Option Addr) (c : Nat) (L : List (Int × Int)) (P0 Q0 : Int) (R : Nat) (w : World) (X : Hid (RdF w A L)) (hn : L.length ≤ 1048576) (hall : L.all (fun x => okB x.1 x.2) = true) (h0 : L[0]? = some (P0, Q0)) (hr : (fl (L.drop 1) 1 0 P0 Q0).1 = R) :
    Calls Try.prog 78 #[.slice A L.length c] w fun e w' => e = .returned (.int .i64 (R : Int)) ∧ Gr w w' := by
  have HALL := hid hall; have H0 := hid h0; have HR := hid hr
  clear hall h0 hr
  have hlen : 0 < L.length := (List.getElem?_eq_some_iff.1 H0.out).1
  go_enter Try.func78, Try.ntmps78
  go_wp2_with fail
  refine wp_scope_loop2 0 1 (FLJ A c L R w) (fun a' _ => L.length - (intOf (a'.tmps.getD 4 undef)).toNat) rfl rfl rfl ?first ?pass
  case first =>
    go_wp2_with fail
    exact ⟨Gr.refl _, _, 0, 1, P0, Q0, _, _, _, _, _, _, _, _, _, _, _, _, _, _, _, _, _, _, rfl, hlen, hlen, H0.out, HR.out⟩
  case pass =>
    rintro a' w' ⟨hg, u1, b, n, P, Q, u5, u6, u7, u8, u9, u10, u11, u12, u13, u14, u15, u16, u17, u18, u19, u20, u21, u22, rfl, hb, hn2, hbp, hs⟩
    by_cases hlt : n < L.length
    · obtain ⟨⟨p, q⟩, hpq⟩ : ∃ pq, L[n]? = some pq := ⟨L[n], List.getElem?_eq_getElem _⟩
      have hd : ((n : Int) == (L.length : Int)) = false := by simp; omega
      have okp := hid (all_get hpq HALL.out)
      have okb := hid (all_get hbp HALL.out)
      rw [fl_step hpq] at hs
      obtain ⟨ad, rfl, c1, c2⟩ := X.out b P Q hbp
      obtain ⟨ad', he, d1, d2⟩ := X.out n p q hpq
      cases he
      have C1 := hid c1; have C2 := hid c2; have D1 := hid d1; have D2 := hid d2
      have HPQ := hid hpq; have HBP := hid hbp
      have HG := hid hg
      clear c1 c2 d1 d2 hpq hbp hg
      by_cases hc : cmpI p q P Q < 0
      · have hge : decide (0 ≤ cmpI p q P Q) = false := by simp; omega
        have HGE := hid hge
        rw [if_pos hc] at hs
        have HS := hid hs
        clear hs
        go_wp2_with fail
        refine wp_reg0 9 (by kernel_rfl) (by kernel_rfl) ?_
        apply Exists.intro
        refine ⟨fun wb hb => ?_, ?_⟩
        · have hg := HG.out.trans hb
          have _ := hg.atF C1.out; have _ := hg.atF C2.out; have _ := hg.atF D1.out; have _ := hg.atF D2.out
          clear hg
          simp only [headOps, List.contains, List.elem, reduceIte, Bool.false_eq_true]
          repeat (first | go_big_quiet_step (first | (go_at_call 122; exact Calls.of_gr (iord _ _ _ _ _ okp.out okb.out))) | quiet_step (fail))
          exact wpQuiet_nil rfl
        intro w1 hg1
        have HG1 := hid (HG.out.trans hg1)
        clear hg1
        go_wp2_with fail
        go_step3
        go_wp2_with fail
        go_step3
        exact .inl ⟨rfl, ⟨HG1.out, _, n, n + 1, p, q, _, _, _, _, _, _, _, _, _, _, _, _, _, _, _, _, _, _, rfl, hlt, by omega, HPQ.out, HS.out⟩, by simp [intOf]; omega⟩
      · have hge : decide (0 ≤ cmpI p q P Q) = true := by simp; omega
        have HGE := hid hge
        rw [if_neg hc] at hs
        have HS := hid hs
        clear hs
        go_wp2_with fail
        refine wp_reg0 9 (by kernel_rfl) (by kernel_rfl) ?_
        apply Exists.intro
        refine ⟨fun wb hb => ?_, ?_⟩
        · have hg := HG.out.trans hb
          have _ := hg.atF C1.out; have _ := hg.atF C2.out; have _ := hg.atF D1.out; have _ := hg.atF D2.out
          clear hg
          simp only [headOps, List.contains, List.elem, reduceIte, Bool.false_eq_true]
          repeat (first | go_big_quiet_step (first | (go_at_call 122; exact Calls.of_gr (iord _ _ _ _ _ okp.out okb.out))) | quiet_step (fail))
          exact wpQuiet_nil rfl
        intro w1 hg1
        have HG1 := hid (HG.out.trans hg1)
        clear hg1
        go_wp2_with fail
        go_step3
        refine .inr ⟨rfl, ?_⟩
        go_wp2_with fail
        go_step3
        exact ⟨rfl, ⟨HG1.out, _, b, n + 1, P, Q, _, _, _, _, _, _, _, _, _, _, _, _, _, _, _, _, _, _, rfl, hb, by omega, HBP.out, HS.out⟩, by simp [intOf]; omega⟩
    · obtain rfl : n = L.length := by omega
      have hs2 : b = R := by simpa [fl] using hs
      subst hs2
      go_wp2_with fail
      go_ret
      exact ⟨rfl, hg⟩
end Go.Proofs.Ytfkmlgndggnhaaa
