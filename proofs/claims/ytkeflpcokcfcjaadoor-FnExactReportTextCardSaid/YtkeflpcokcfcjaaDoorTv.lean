/- TEXTS READ: the program's ReadFrac. -/
import Derived.Test.YtkeflpcokcfcjaaDoorTs
import Derived.Shelf.Vars
namespace Go.Proofs.YtkeflpcokcfcjaaDoor
open Go.RowKit Go.Sort

/-- What readers of numbers ask of the library's variables. -/
structure TxW (w : World) : Prop where
  pow : Pow w
  ml : ∃ m, w.cell? ⟨3, 0, none⟩ = some (.int .i64 m)
  es : ∃ tp p, w.var? Tryd.prog "strconv.ErrSyntax" = some #[.iface tp p]
  er : ∃ tp p, w.var? Tryd.prog "strconv.ErrRange" = some #[.iface tp p]
theorem es_at : Tryd.prog.globalNamed "strconv.ErrSyntax" = some 0 := by kernel_rfl
theorem er_at : Tryd.prog.globalNamed "strconv.ErrRange" = some 1 := by kernel_rfl
abbrev Bl (w w' : World) : Prop := Below w.heap.size w w'
theorem Bl.tr {a b c : World} (h : Bl a b) (k : Bl b c) : Bl a c := Below.trans h (Below.mono k h.size)
theorem TxW.keep {w w' : World} (h : TxW w) (hb : Bl w w') : TxW w' := by
  obtain ⟨h1, ⟨m, h2⟩, ⟨tp, p, h3⟩, ⟨tp', p', h4⟩⟩ := h
  exact ⟨Joins.tab_stays pow_at h1 hb (Nat.le_refl _), ⟨m, (Below.cell hb (World.block_lt_of_cell? _ _ h2)).trans h2⟩, ⟨tp, p, Joins.var_stays es_at h3 hb (Nat.le_refl _)⟩, ⟨tp', p', Joins.var_stays er_at h4 hb (Nat.le_refl _)⟩⟩
theorem TxW.gr {w w' : World} (h : TxW w) (hg : Gr w w') : TxW w' := h.keep hg.below
/-- What strconv.ParseInt gives. -/
def PiR (l : List UInt8) (e : Ending) : Prop := (∃ v, Lib.parseIntB 64 l = .ok v ∧ e = .returned (.tuple #[.int .i64 v, .nilIface])) ∨ ((∀ v, Lib.parseIntB 64 l ≠ .ok v) ∧ ∃ v t p, e = .returned (.tuple #[.int .i64 v, .iface t p]))
theorem iParse (s : ByteArray) (w : World) (hs : s.size ≤ 1048576) (T : Hid (TxW w)) :
    Calls Tryd.prog 33 #[.string s, .int .i64 10, .int .i64 64] w fun e w' => PiR s.data.toList e ∧ Bl w w' := by
  obtain ⟨tp, p, h1⟩ := T.out.es
  obtain ⟨tp', p', h2⟩ := T.out.er
  cases h : Lib.parseIntB 64 s.data.toList
  · rename_i v
    refine (Any.strconv_ParseInt_10_at64_ok Tryd.laysC174 s (by omega) v h w).mono ?_
    rintro e w' ⟨he, hw⟩
    refine ⟨.inl ⟨v, h, he⟩, ?_⟩
    rcases hw with rfl | ⟨t, rfl⟩
    · exact Below.refl _ _
    · exact Lib.bytesWorld_below _ _ _
  · refine (Any.strconv_ParseInt_10_at64_syntax_var Tryd.laysC174 s (by omega) h tp p w h1).mono ?_
    rintro e w' ⟨N, he, _, _, hb⟩
    exact ⟨.inr ⟨(fun v hv => by rw [h] at hv; cases hv), _, _, _, he⟩, hb⟩
  · refine (Any.strconv_ParseInt_10_at64_range_var Tryd.laysC174 s (by omega) h tp' p' w h2).mono ?_
    rintro e w' ⟨N, he, _, _, hb⟩
    exact ⟨.inr ⟨(fun v hv => by rw [h] at hv; cases hv), _, _, _, he⟩, hb⟩
theorem bl_keep {w w' : World} {b : Nat} {o : Obj} (h : Bl w w') (hb : w.heap[b]? = some o) : w'.heap[b]? = some o := (Below.block h b (ltb hb)).trans hb
/-- What strings.Cut gives at "/". -/
def cutP (s o u : ByteArray) (b : Bool) : Prop := Lib.cut s.data.toList [47] = (o.data.toList, u.data.toList, b)
theorem txt_empty_ne {s : ByteArray} (h : ¬ s.size = 0) : ¬ (⟨#[]⟩ : ByteArray) = s := fun e => h (by rw [← e]; rfl)
theorem ba_list (l : List UInt8) : (⟨l.toArray⟩ : ByteArray).data.toList = l := rfl
theorem ba_of_list {s : ByteArray} {l : List UInt8} (h : s.data.toList = l) : s = ⟨l.toArray⟩ := ByteArray.ext (Array.ext' h)
end Go.Proofs.YtkeflpcokcfcjaaDoor
