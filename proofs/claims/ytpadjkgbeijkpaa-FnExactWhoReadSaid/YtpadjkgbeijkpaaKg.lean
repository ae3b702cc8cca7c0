/- WALKS: WhoRead and NearestReader of the program: how often each habit hits, kept in a map. -/
import Derived.Test.YtpadjkgbeijkpaaPj
import Derived.Test.YtpadjkgbeijkpaaVr
import Derived.WideKeyEntry
import Derived.Test.YtpadjkgbeijkpaaIs
namespace Go.Proofs.Ytpadjkgbeijkpaa
open Go.RowKit Go.Sort

/-- A habit as a key. -/
abbrev Gsk := Int × Int × Bool
abbrev gK (a : Gsk) : Value := gs a.1 a.2.1 a.2.2
/-! the map of hits: from habits to how often they hit -/
/-- Whatever is kept is how often it hits. -/
def KeptG (H : Gsk → Int) (es : Array MapEntry) : Prop := ∀ x ∈ es.toList, ∃ a : Gsk, x.key = gK a ∧ x.val = .int .i64 (H a)
theorem KeptG.nil (H : Gsk → Int) : KeptG H #[] := fun x hx => by simp at hx
theorem KeptG.push {H : Gsk → Int} {a : Gsk} {es : Array MapEntry} (h : KeptG H es) (born : Nat) : KeptG H (es.push { key := gK a, val := .int .i64 (H a), born := born }) := fun x hx => by
  simp only [Array.toList_push, List.mem_append, List.mem_singleton] at hx
  rcases hx with hx | rfl
  · exact h x hx
  · exact ⟨a, rfl, rfl⟩
theorem keyOkG (b : Bool) (a : Gsk) (w : World) : (Instr.checkKey b 10000 97 (gK a)).run Try.prog w = .ok () w := by kernel_rfl
theorem gsEq (a a' : Gsk) (w : World) : (Op.equal 97 (gK a) (gK a')).run Try.prog w = .ok (decide (a = a')) w := by
  obtain ⟨b, u, o⟩ := a
  obtain ⟨b', u', o'⟩ := a'
  have hp : Try.prog.stoodInHeld 97 = false := by kernel_rfl
  have h := run_equalIn_struct (P := Try.prog) w 9999 97 #[.int .i16 b, .int .i16 u, .bool o] #[.int .i16 b', .int .i16 u', .bool o'] (by kernel_rfl) hp
  have e : (Op.equal 97 (gK (b, u, o)) (gK (b', u', o'))).run Try.prog w = (Op.equalIn (9999 + 1) 97 (gK (b, u, o)) (gK (b', u', o'))).run Try.prog w := rfl
  rw [e, h]
  by_cases h1 : b = b'
  · subst h1
    by_cases h2 : u = u'
    · subst h2
      by_cases h3 : o = o'
      · subst h3
        simp [Op.eqFields, Program.fieldsOf, go_sem]
      · have hb : (o == o') = false := by simpa using h3
        simp [Op.eqFields, Program.fieldsOf, go_sem, h3]
    · have hb : (u == u') = false := by simpa using h2
      simp [Op.eqFields, Program.fieldsOf, go_sem, h2]
  · have hb : (b == b') = false := by simpa using h1
    simp [Op.eqFields, Program.fieldsOf, go_sem, h1]
theorem findAskG (H : Gsk → Int) (a : Gsk) : ∀ (es : List MapEntry) (i : Nat), (∀ x ∈ es, ∃ a', x.key = gK a' ∧ x.val = .int .i64 (H a')) →
    (∃ j, ∀ w, (Instr.findAsking 97 (gK a) es i).run Try.prog w = .ok (some (j, .int .i64 (H a))) w) ∨ ∀ w, (Instr.findAsking 97 (gK a) es i).run Try.prog w = .ok none w
  | [], i, _ => .inr fun w => rfl
  | x :: r, i, h => by
    obtain ⟨a', hk, hv⟩ := h x (by simp)
    by_cases haa : a = a'
    · subst haa
      refine .inl ⟨i, fun w => ?_⟩
      simp [Instr.findAsking, hk, hv, gsEq, Result.andThen]
    · have hb : decide (a = a') = false := decide_eq_false haa
      rcases findAskG H a r (i + 1) (fun y hy => h y (by simp [hy])) with ⟨j, hj⟩ | hj
      · refine .inl ⟨j, fun w => ?_⟩
        simp [Instr.findAsking, hk, gsEq, hb, hj, Result.andThen]
      · refine .inr fun w => ?_
        simp [Instr.findAsking, hk, gsEq, hb, hj, Result.andThen]
theorem findKeptG (H : Gsk → Int) (a : Gsk) (es : Array MapEntry) (h : KeptG H es) :
    (∃ j, ∀ w, (Instr.findKey 97 (gK a) es.toList).run Try.prog w = .ok (some (j, .int .i64 (H a))) w) ∨ ∀ w, (Instr.findKey 97 (gK a) es.toList).run Try.prog w = .ok none w := by
  have hu : Try.prog.underlying 97 = some (.struct (Try.prog.fieldsOf 97)) := by kernel_rfl
  unfold KeptG at h
  generalize es.toList = L at *
  cases L with
  | nil => exact .inr fun w => by simp [Instr.findKey, run_underlying hu, Instr.findNow, Result.andThen]
  | cons x r =>
    obtain ⟨a', hk, hv⟩ := h x (by simp)
    have hs : Instr.findNow (.struct (Try.prog.fieldsOf 97)) (gK a) (x :: r) 0 = none := by
      simp [Instr.findNow, Instr.sameNow]
    rcases findAskG H a (x :: r) 0 h with ⟨j, hj⟩ | hj
    · exact .inl ⟨j, fun w => by simp [Instr.findKey, run_underlying hu, hs, hj, Result.andThen]⟩
    · exact .inr fun w => by simp [Instr.findKey, run_underlying hu, hs, hj, Result.andThen]
/-- The look-up, and what a store behind it does. -/
theorem lookKeptG (H : Gsk → Int) (a : Gsk) (es : Array MapEntry) (clock m : Nat) (h : KeptG H es) :
    (∀ w : World, w.heap[m]? = some (.map es clock) → (Instr.lookup 158 (.map (some m)) (gK a) true).run Try.prog w = .ok (.tuple #[.int .i64 (H a), .bool true]) w) ∨
    ((∀ w : World, w.heap[m]? = some (.map es clock) → (Instr.lookup 158 (.map (some m)) (gK a) true).run Try.prog w = .ok (.tuple #[.int .i64 0, .bool false]) w) ∧
     (∀ w : World, w.heap[m]? = some (.map es clock) → ∃ w' es', (Instr.mapUpdate 158 (.map (some m)) (gK a) (.int .i64 (H a))).run Try.prog w = .ok () w' ∧ w'.heap[m]? = some (.map es' (clock + 1)) ∧ KeptG H es' ∧ Only m w w' ∧ w'.heap.size = w.heap.size)) := by
  have hu : Try.prog.underlying 158 = some (.map 97 3) := by kernel_rfl
  have hz : ∀ w, (zeroValue 3).run Try.prog w = .ok (.int .i64 0) w := fun w => by kernel_rfl
  rcases findKeptG H a es h with ⟨j, hj⟩ | hj
  · refine .inl fun w hm => ?_
    simp [Instr.lookup, run_underlying hu, MapKept.run_getObj_map hm, keyOkG, hj, Result.andThen]
  · refine .inr ⟨fun w hm => ?_, fun w hm => ?_⟩
    · simp [Instr.lookup, run_underlying hu, MapKept.run_getObj_map hm, keyOkG, hj, hz, Result.andThen]
    · refine ⟨{ w with heap := w.heap.setIfInBounds m (.map (es.push { key := gK a, val := .int .i64 (H a), born := clock }) (clock + 1)) }, es.push { key := gK a, val := .int .i64 (H a), born := clock }, ?_, ?_, h.push (a := a) clock, ?_, by simp⟩
      · simp [Instr.mapUpdate, run_underlying hu, MapKept.run_getObj_map hm, keyOkG, hj, MapKept.run_setObj_map _ hm, Result.andThen]
      · exact (MapKept.heap_set hm).1
      · refine ⟨fun j o hj ho => by rw [← ho]; exact (MapKept.heap_set hm).2 j hj, fun W0 h0 hb => h0.heap rfl rfl rfl rfl (by simp) fun j hj => (MapKept.heap_set hm).2 j (by omega)⟩
end Go.Proofs.Ytpadjkgbeijkpaa
