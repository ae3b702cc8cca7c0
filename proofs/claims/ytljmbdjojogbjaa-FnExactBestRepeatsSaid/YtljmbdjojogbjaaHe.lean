/- WALKS: an angle is repeated, of the program and of the reference. -/
import Derived.Test.YtljmbdjojogbjaaHc
namespace Go.Proofs.Ytljmbdjojogbjaa
open Go.RowKit Go.Sort

/-- The turn from the first reading to the last one; the circles; their sum. -/
def rpT (H : Int → Int) (s g t : Int) : Int := turnI (H s) (H (wrapI (s + t * g)))
def rpK (H : Int → Int) (s g t : Int) : Int := downI (2 * (t * g - rpT H s g t) + 1296000) (2 * 1296000)
def rpS (H : Int → Int) (s g t : Int) : Int := rpT H s g t + rpK H s g t * 1296000
structure RpB (s g t : Int) : Prop where
  s1 : 0 ≤ s
  s2 : s ≤ 1295999
  g1 : 0 ≤ g
  g2 : g ≤ 1295999
  t1 : 1 ≤ t
  t2 : t ≤ 200
theorem tg_bd {s g t : Int} (h : RpB s g t) : 0 ≤ t * g ∧ t * g ≤ 259200000 := by
  have := mul_bdg (x := t) (y := g) (A := 200) (B := 1296000) (by have := h.t1; omega) h.t2 (by have := h.g1; omega) (by have := h.g2; omega)
  have := Int.mul_nonneg (show 0 ≤ t by have := h.t1; omega) h.g1
  omega
theorem rp_bd {H : Int → Int} {s g t : Int} (h : RpB s g t) : (-648000 < rpT H s g t ∧ rpT H s g t ≤ 648000) ∧ (-10 ≤ rpK H s g t ∧ rpK H s g t ≤ 300) ∧ (-800000000 ≤ rpS H s g t ∧ rpS H s g t ≤ 800000000) := by
  have ht := turn_bd (H s) (H (wrapI (s + t * g)))
  have hm := tg_bd h
  have e : rpK H s g t = (2 * (t * g - rpT H s g t) + 1296000) / (2 * 1296000) := down_div _ _ (by omega)
  have hT : rpT H s g t = turnI (H s) (H (wrapI (s + t * g))) := rfl
  have hS : rpS H s g t = rpT H s g t + rpK H s g t * 1296000 := rfl
  rw [hS]
  omega
theorem rp_ok {p q : Int} (h1 : -1000000000 ≤ p) (h2 : p ≤ 1000000000) (h3 : 1 ≤ q) (h4 : q ≤ 1000000000) : okB (redP p q) (redQ p q) = true := by
  have hz : q ≠ 0 := by omega
  rw [okB_iff]
  have a1 := redQ_pos (p := p) hz
  have a2 := red_gcd (p := p) hz
  unfold redP redQ at a1 a2 ⊢
  rw [if_neg (by omega)] at a1 a2 ⊢
  rw [if_neg (by omega)] at a2 ⊢
  obtain ⟨t1, t2⟩ := tdiv_bd p (Int.gcd p q) 1000000000 h1 h2
  obtain ⟨t3, t4⟩ := tdiv_bd q (Int.gcd p q) 1000000000 (by omega) h4
  unfold Ok
  omega
theorem rC_zero {p q : Int} (h1 : -1000000000 ≤ p) (h2 : p ≤ 1000000000) (h3 : 1 ≤ q) (h4 : q ≤ 1000000000) : rC p q = 0 ∧ rP p q = redP p q ∧ rQ p q = redQ p q := by
  have h := rp_ok h1 h2 h3 h4
  unfold rC rP rQ
  rw [h]
  exact ⟨rfl, rfl, rfl⟩
theorem Only.setNew {m : Nat} {w w1 : World} (o : Only m w w1) {a : Addr} (ha : w.heap.size ≤ a.block) (v : Value) : Only m w (w1.setCell a v) :=
  ⟨fun j o' hj ho => by rw [Below.heap_setCell _ _ _ _ (by have := ltb ho; omega)]; exact o.1 j o' hj ho, fun W0 h0 hb => (o.2 W0 h0 hb).setCell (Nat.le_trans h0.size ha) v⟩
theorem Rdr.lts {w : World} {H : Int → Int} {l : Int} {dv : Array Value} {bl bk bd m : Nat} (h : Rdr w H l dv bl bk bd m) : bl < w.heap.size ∧ bk < w.heap.size ∧ bd < w.heap.size ∧ m < w.heap.size := by
  obtain ⟨⟨_, h1⟩, ⟨_, h2⟩, ⟨_, h3⟩, _, _, h4, _⟩ := h
  exact ⟨ltb h1, ltb h2, ltb h3, ltb h4⟩
theorem Rdr.setNew {w w1 : World} {H : Int → Int} {l : Int} {dv : Array Value} {bl bk bd m : Nat} (h0 : Rdr w H l dv bl bk bd m) (h : Rdr w1 H l dv bl bk bd m) {a : Addr} (ha : w.heap.size ≤ a.block) (v : Value) : Rdr (w1.setCell a v) H l dv bl bk bd m := by
  obtain ⟨l1, l2, l3, l4⟩ := h0.lts
  obtain ⟨⟨T1, h1⟩, ⟨T2, h2⟩, ⟨T3, h3⟩, es, c, h4, h5⟩ := h
  exact ⟨⟨T1, keepSet h1 (by omega)⟩, ⟨T2, keepSet h2 (by omega)⟩, ⟨T3, keepSet h3 (by omega)⟩, es, c, keepSet h4 (by omega), h5⟩
theorem only_trans {m : Nat} {w w1 w2 : World} (a : Only m w w1) (b : Only m w1 w2) : Only m w w2 :=
  ⟨fun j o' hj ho => b.1 j o' hj (a.1 j o' hj ho), fun W0 h0 hb => b.2 W0 (a.2 W0 h0 hb) hb⟩
/-- What a map's change leaves of a slice: its cells are no map. -/
theorem rdh_only {m : Nat} {w w' : World} {H : Int → Int} {l : Int} {dv : Array Value} {bl bk bd : Nat} {A : Option Addr} {xs : List Int} (h : RdH w A xs) (o : Only m w w') (hr : Rdr w H l dv bl bk bd m) : RdH w' A xs := fun k p hk => by
  obtain ⟨ad, e, c⟩ := h k p hk
  obtain ⟨es, ck, hm, _⟩ := hr.xm
  refine ⟨ad, e, ?_⟩
  have hb := World.block_lt_of_cell? _ _ c
  have hne : (ad.add k).block ≠ m := fun he => by
    have : w.cell? (ad.add k) = none := by simp [World.cell?, he, hm]
    rw [this] at c; cases c
  have h2 := o.1 (ad.add k).block w.heap[(ad.add k).block] hne (Array.getElem?_eq_getElem hb)
  rw [← c]
  exact World.cell?_of_block (h2.trans (Array.getElem?_eq_getElem hb).symm)
abbrev rpd (g t s k : Int) : Value := .agg #[.int .i64 g, .int .i64 t, .int .i64 s, .int .i64 k]
end Go.Proofs.Ytljmbdjojogbjaa
