/- WALKS: the marks of a scale collected; told. -/
import Derived.Test.YtfkmlgndggnhaaaSkd
import Derived.Test.YtfkmlgndggnhaaaC1
namespace Go.Proofs.Ytfkmlgndggnhaaa
open Go.RowKit Go.Sort

theorem collect_any (gf : Nat) (lb : Array Value) (L : List (Int × Int)) (S : Option (List PanicEntry → Prop)) (w : World) (hN : L.length ≤ 64) (eg : ∀ args w, (callFunc gf args).run Try.prog w = .ok (.enter gf args) w)
    (hH : ∀ (I : Nat → World → Prop) (w1 : World), Gr w w1 → (∀ k W, I k W → Gr w W) → Hands Fence.wide 4 Try.prog gf lb (encF L) L.length I S w1) :
    Calls Try.prog 57 #[.func (.func gf) #[] lb] w (seqPost S L w) := by
  have HA := hid (appendSeq_any gf lb L S w hN eg hH)
  clear hH eg
  go_enter Try.func57, Try.ntmps57
  go_wp2_with fail
  refine HA.out.mono ?_
  intro e w1 hp
  cases S with
  | none =>
    obtain ⟨v, rfl, ho, hg⟩ := hp
    have HO := hid ho; have HG := hid hg; clear ho hg
    go_wp2_with fail
    go_ret
    exact ⟨_, rfl, HO.out, HG.out⟩
  | some S' =>
    obtain ⟨ch, rfl, hS, hg⟩ := hp
    exact ⟨rfl, ch, rfl, hS, hg⟩
set_option maxHeartbeats 400000 in
theorem imarks (a b : Int) (A : Option Addr) (n c : Nat) (w : World) :
    Calls Try.prog 58 #[scl a b A n c] w fun e w' => e = .returned (.func (.func 110) #[] #[.pointer (some ⟨w.heap.size, 0, none⟩)]) ∧ w'.heap[w.heap.size]? = some (.cells #[.int .i64 a, .int .i64 b, .slice A n c] 32) ∧ Gr w w' := by
  go_enter Try.func58, Try.ntmps58
  go_wp2_with fail
  go_ret
  exact ⟨rfl, (alloc1 (Gr.refl _)).1, Gr.alloc _ _⟩
set_option maxRecDepth 20000 in
set_option maxHeartbeats 400000 in
theorem iallMarks (a b : Int) (A : Option Addr) (c k : Nat) (xs : List (Int × Int)) (w : World) (X1 : Hid (w.heap[k]? = some (.cells #[.int .i64 a, .int .i64 b, .slice A xs.length c] 32))) (X : Hid (RdF w A xs)) (hl : xs.length ≤ 60) (h1 : okB a b = true) (hx : xs.all (fun x => okB x.1 x.2) = true)
    (S : Option (List PanicEntry → Prop)) (hS : (S = none ∧ AllMk a b xs) ∨ (S = some TooGreat ∧ ¬ AllMk a b xs)) :
    Calls Try.prog 56 #[.pointer (some ⟨k, 0, none⟩)] w (seqPost S (mks a b xs) w) := by
  have hC : ∀ w1, Gr w w1 → w1.heap[w.heap.size]? = some (.cells #[.int .i64 a, .int .i64 b, .slice A xs.length c] 32) → Calls Try.prog 57 #[.func (.func 110) #[] #[.pointer (some ⟨w.heap.size, 0, none⟩)]] w1 (seqPost S (mks a b xs) w1) := fun w1 hg hb =>
    collect_any _ _ _ _ _ (by rw [mks_len]; omega) (fun _ _ => by kernel_rfl) (fun I w2 hg2 hI => by
      rw [mks_len]
      exact marks_hands 4 (by omega) a b A c w.heap.size xs I w2 hl h1 hx (fun k W h => ⟨(hI k W h).keep hb, X.out.keep (hg.trans (hI k W h))⟩) S hS)
  have HC := hid hC
  clear hC hx hS
  go_enter Try.func56, Try.ntmps56
  obtain ⟨_, _, _⟩ := cells3 X1.out
  have _ := fz X1.out
  have _ := ltb X1.out
  go_wp2_with fail
  refine (imarks a b A xs.length c _).mono ?_
  rintro e w1 ⟨rfl, xb, hg⟩
  have XB := hid xb; have G1 := hid hg
  clear xb hg
  go_wp2_with fail
  refine (HC.out w1 G1.out XB.out).mono ?_
  intro e w2 hp
  cases S with
  | none =>
    obtain ⟨v, rfl, ho, hg⟩ := hp
    have HO := hid ho; have HG := hid hg; clear ho hg
    go_wp2_with fail
    go_ret
    refine ⟨_, rfl, ?_, G1.out.trans HG.out⟩
    refine ⟨HO.out.1, ?_⟩
    rcases HO.out.2 with h | ⟨g, cap, cur, h1, h2, h3⟩
    · exact .inl h
    · exact .inr ⟨g, cap, cur, h1, Nat.le_trans G1.out.size h2, h3⟩
  | some S' =>
    obtain ⟨ch, rfl, hS, hg⟩ := hp
    exact ⟨rfl, ch, rfl, hS, G1.out.trans hg⟩
set_option maxHeartbeats 400000 in
theorem catch_idle_L (p : Addr) (w : World) :
    CallsD Try.prog 108 #[.pointer (some p)] .returning w fun e u' w' => e = .returned (.tuple #[]) ∧ u' = .returning ∧ w' = w := by
  have h1 : ∀ w, (Instr.typeAssert .nilIface 20 117 true).run Try.prog w = .ok (.tuple #[.nilIface, .bool false]) w := fun _ => by kernel_rfl
  refine callsD_of_wpS Try.func108 rfl fun c₀ cs hu => ?_
  apply wpS_seq
  apply wpS_region
  simp [wpOpsS, go_sem, recoverD, hu, Try.ntmps108, Exit.thenS, ↓h1]
  apply wpS_of_wp
  go_wp2
  cases c₀
  simp_all [bodyPostS, results, Try.results108]
set_option maxHeartbeats 400000 in
theorem catch_great_L (b : Nat) (x y : Int) (w : World) (c : Int) (T : TypeId) (hc : w.heap[b]? = some (.cells #[.int .i64 c] T)) :
    CallsD Try.prog 108 #[.pointer (some ⟨b, 0, none⟩)] (.panicking [{ v := .iface 125 (fr x y), recovered := false }]) w fun e u' w' =>
      e = .returned (.tuple #[]) ∧ u' = .panicking [{ v := .iface 125 (fr x y), recovered := true }] ∧ ∃ w1, Gr w w1 ∧ w' = w1.setCell ⟨b, 0, none⟩ (.int .i64 3) := by
  have h1 : ∀ x w, (Instr.typeAssert (.iface 125 x) 20 117 true).run Try.prog w = .ok (.tuple #[.iface 125 x, .bool true]) w := fun _ _ => by kernel_rfl
  refine callsD_of_wpS Try.func108 rfl fun c₀ cs hu => ?_
  apply wpS_seq
  apply wpS_region
  simp [wpOpsS, go_sem, recoverD, hu, Try.ntmps108, Exit.thenS, ↓h1, Array.replicate, List.replicate]
  apply wpS_of_wp
  clear hu h1
  have HC := hid hc; clear hc
  go_wp2_with (go_at_call 161; refine (code_great _ _ _).mono ?_; rintro e w1 ⟨rfl, hg⟩; have hb := hg.keep HC.out; have f0 := fz hb; have c0 := cells1 hb; have HG := hid hg; clear hg hb)
  cases c₀
  simp [bodyPostS, results, Try.results108]
  exact ⟨w1, HG.out, rfl⟩
set_option maxRecDepth 20000 in
set_option maxHeartbeats 400000 in
theorem told_ok_L (f : Nat) (cap : Array Value) (R : Value → World → Prop) (hRs : ∀ v W (b : Nat) x, R v W → W.heap[b]? = some (.cells #[x] 2) → ∀ y, R v (W.setCell ⟨b, 0, none⟩ y)) (w : World) (hen : ∀ w, (callFunc f cap).run Try.prog w = .ok (.enter f cap) w) (hF : ∀ w', Gr w w' → Calls Try.prog f cap w' fun e w'' => ∃ v, e = .returned v ∧ R v w'' ∧ Gr w' w'') :
    Calls Try.prog 55 #[.func (.func f) #[] cap] w fun e w' => ∃ v, e = .returned (.tuple #[v, .int .i64 0]) ∧ R v w' ∧ Gr w w' := by
  have HF := hid hF; clear hF
  have HRS := hid hRs; clear hRs
  go_enter_defers Try.func55, Try.ntmps55
  go_wp2_with fail
  refine (HF.out _ (Gr.alloc _ _)).mono ?_
  rintro e w1 ⟨v, rfl, hR, hg⟩
  obtain ⟨x1, hz, G1⟩ := alloc1 hg
  have _ := cells1 x1
  have _ := fz x1
  have G1 := hid G1; have HR := hid hR; have X1 := hid x1
  clear hg x1 hR
  go_wp2_with fail
  refine leaves_cons (f := 108) (args := #[.pointer (some ⟨w.heap.size, 0, none⟩)]) (by simp) (by simp [go_sem]) ?_
  refine (catch_idle_L _ _).mono ?_
  rintro e u' w2 ⟨rfl, rfl, rfl⟩
  simp [Leaves, settle, results, Try.results55, go_sem, *]
  exact ⟨HRS.out _ _ _ _ HR.out X1.out _, G1.out.setCell (by simp) _⟩

set_option maxRecDepth 20000 in
set_option maxHeartbeats 400000 in
theorem told_great_L (f : Nat) (cap : Array Value) (w : World) (hen : ∀ w, (callFunc f cap).run Try.prog w = .ok (.enter f cap) w) (hF : ∀ w', Gr w w' → Calls Try.prog f cap w' fun e w'' => (∃ p q, e = .panicked [{ v := .iface 125 (fr p q), recovered := false }]) ∧ Gr w' w'') :
    Calls Try.prog 55 #[.func (.func f) #[] cap] w fun e w' => e = .returned (.tuple #[.slice none 0 0, .int .i64 3]) ∧ Gr w w' := by
  have HF := hid hF; clear hF
  go_enter_defers Try.func55, Try.ntmps55
  go_wp2_with fail
  refine (HF.out _ (Gr.alloc _ _)).mono ?_
  rintro e w1 ⟨⟨p, q, rfl⟩, hg⟩
  obtain ⟨x1, hz, G1⟩ := alloc1 hg
  refine leaves_cons (f := 108) (args := #[.pointer (some ⟨w.heap.size, 0, none⟩)]) (by simp) (by simp [go_sem]) ?_
  refine (catch_great_L _ _ _ _ _ _ x1).mono ?_
  rintro e u' w2 ⟨rfl, rfl, w3, hg3, rfl⟩
  have _ := cells1 (hg3.keep x1)
  simp [Leaves, settle, results, Try.results55, go_sem, *]
  exact (G1.trans hg3).setCell (by simp) _
end Go.Proofs.Ytfkmlgndggnhaaa
