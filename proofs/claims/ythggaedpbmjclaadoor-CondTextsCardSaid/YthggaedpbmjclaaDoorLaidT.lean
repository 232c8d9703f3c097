/- Layer 13: the listed variables with the kinds' words among them, in a world for the witness; what they hold when the call begins. -/
import Derived.Test.YthggaedpbmjclaaDoorLaid13
import Derived.Test.YthggaedpbmjclaaDoorCdFmt
namespace Go.Proofs.YthggaedpbmjclaaDoor
open Go.RowKit

def spV : Array Value := ((List.range 6).flatMap spK).toArray
/-- a world for the witness -/
noncomputable def laidWorldT (os : Os) : World :=
  { laidWorld os with heap := (laidWorld os).heap.modify 0 (relay spV) }
theorem pwName : Tryd.prog.globalNamed "internal/strconv.uint64pow10" = some 1 := by kernel_rfl
theorem pwType : (Tryd.prog.globals[1]?).map (·.type) = some 109 := by kernel_rfl
theorem spName : Tryd.prog.globalNamed "watchfire/cond.spellings" = some 0 := by kernel_rfl
theorem spType : (Tryd.prog.globals[0]?).map (·.type) = some 63 := by kernel_rfl
section
variable {H : Type} {enc : TypeId × Value → H} {W : World} {base : Nat} {sp : Nat → Bool} {hd : Bool}
set_option maxRecDepth 100000 in
theorem sp_elem {fuel : Nat} {c3 : List Value} {x : DataW H × List MemPlace} {l : List UInt8} {a b : Bool} (h : DataW.trod enc Tryd.prog W base sp hd fuel 62 c3 = some x) (hx : x.1 = .agg [.lit (.string l), .lit (.bool a), .lit (.bool b)]) :
    c3 = [.string ⟨l.toArray⟩, .bool a, .bool b] := by
  have hc : Tryd.prog.cellsOf 62 = 3 := by kernel_rfl
  have k0 : Tryd.prog.cellsOf 9 = 1 := by kernel_rfl
  have k1 : Tryd.prog.cellsOf 4 = 1 := by kernel_rfl
  obtain ⟨xs, n, _, hxx, hl, hlen, hg⟩ := DataW.trod_struct Tryd.underlying62 h
  rw [hc] at hl
  obtain ⟨c0, c1, c2, rfl⟩ : ∃ c0 c1 c2, c3 = [c0, c1, c2] := by
    match c3, hl with
    | [c0, c1, c2], _ => exact ⟨c0, c1, c2, rfl⟩
  match xs, hlen with
  | [y0, y1, y2], _ =>
    have t0 : DataW.trod enc Tryd.prog W base sp hd n 9 (([c0, c1, c2].drop 0).take (Tryd.prog.cellsOf 9)) = some y0 := hg 0 _ rfl
    rw [k0] at t0
    have t1 : DataW.trod enc Tryd.prog W base sp hd n 4 (([c0, c1, c2].drop 1).take (Tryd.prog.cellsOf 4)) = some y1 := hg 1 _ rfl
    rw [k1] at t1
    have t2 : DataW.trod enc Tryd.prog W base sp hd n 4 (([c0, c1, c2].drop 2).take (Tryd.prog.cellsOf 4)) = some y2 := hg 2 _ rfl
    rw [k1] at t2
    obtain ⟨s0, e0, g0, _⟩ := DataW.trod_string Tryd.underlying9 t0
    obtain ⟨s1, e1, g1⟩ := DataW.trod_bool Tryd.underlying4 t1
    obtain ⟨s2, e2, g2⟩ := DataW.trod_bool Tryd.underlying4 t2
    obtain rfl := (List.cons.inj e0).1
    obtain rfl := (List.cons.inj e1).1
    obtain rfl := (List.cons.inj e2).1
    subst g0; subst g1; subst g2
    rw [hxx] at hx
    have hx : DataW.agg [.lit (.string s0.data.toList), .lit (.bool s1), .lit (.bool s2)] = .agg [.lit (.string l), .lit (.bool a), .lit (.bool b)] := hx
    injection hx with hx
    injection hx with h0 hx
    injection hx with h1 hx
    injection hx with h2 hx
    injection h0 with h0
    injection h0 with h0
    injection h1 with h1
    injection h1 with h1
    injection h2 with h2
    injection h2 with h2
    subst h0; subst h1; subst h2
    rfl
set_option maxRecDepth 100000 in
theorem sp_cells {fuel : Nat} {cs : List Value} {p : List MemPlace} (h : DataW.trod enc Tryd.prog W base sp hd fuel 63 cs = some (Rows.laid_watchfire_cond_spellings, p)) (k : Nat) (hk : k < 6) : (cs.drop (k * 3)).take 3 = spK k := by
  have hc : Tryd.prog.cellsOf 62 = 3 := by kernel_rfl
  obtain ⟨xs, m, _, hxx, hl, hlen, hg⟩ := DataW.trod_array Tryd.underlying63 h
  have hgk := hg k hk
  rw [hc] at hgk
  obtain ⟨y, hy⟩ : ∃ y, xs[k]? = some y := ⟨_, List.getElem?_eq_getElem (by omega)⟩
  rw [hy] at hgk
  have hx1 : Rows.laid_watchfire_cond_spellings = DataW.agg (xs.map (·.1)) := congrArg Prod.fst hxx
  have hy1 : (xs.map (·.1))[k]? = some y.1 := by rw [List.getElem?_map, hy]; rfl
  unfold Rows.laid_watchfire_cond_spellings at hx1
  injection hx1 with hx1
  rw [← hx1] at hy1
  have h6 : k = 0 ∨ k = 1 ∨ k = 2 ∨ k = 3 ∨ k = 4 ∨ k = 5 := by omega
  rcases h6 with rfl | rfl | rfl | rfl | rfl | rfl <;> exact sp_elem hgk (Option.some.inj hy1).symm
end
set_option maxRecDepth 100000 in
theorem gl_of_laidT {W : World} (h : laidMetH Tryd.prog Rows.condTextsRow.laid W) : GlT W := by
  have h : laidMet Tryd.prog Rows.condTextsRow.laid W := h
  obtain ⟨ps, hL, -⟩ := h
  obtain ⟨g0, t0, cs0, f0, p0, q0, hg0, ht0, hv0, hd0, ⟨g1, t1, cs1, f1, p1, q1, hg1, ht1, hv1, hd1, ⟨g2, t2, cs2, f2, p2, q2, hg2, ht2, hv2, hd2, ⟨g3, t3, cs3, f3, p3, q3, hg3, ht3, hv3, hd3, ⟨g4, t4, cs4, f4, p4, q4, hg4, ht4, hv4, hd4, ⟨g5, t5, cs5, f5, p5, q5, hg5, ht5, hv5, hd5, -⟩, -⟩, -⟩, -⟩, -⟩, -⟩ := hL
  obtain rfl := Option.some.inj (synName.symm.trans hg4)
  obtain rfl := Option.some.inj (synType.symm.trans ht4)
  obtain rfl := Option.some.inj (pwName.symm.trans hg2)
  obtain rfl := Option.some.inj (pwType.symm.trans ht2)
  obtain rfl := Option.some.inj (spName.symm.trans hg5)
  obtain rfl := Option.some.inj (spType.symm.trans ht5)
  have hgc : GlC W := by
    obtain ⟨f', u, v, hcs, -, -⟩ := iface_of_trod Tryd.underlying70 hd4
    obtain ⟨l4⟩ := cs4
    have hcs : l4 = [.iface u v] := hcs
    subst hcs
    have hc : W.cell? ⟨2, 0, none⟩ = some (.iface u v) := by simpa using World.var?_cell hg4 hv4 0
    exact ⟨.iface u v, hc, .inr ⟨u, v, rfl⟩⟩
  refine ⟨hgc, ?_, fun k hk j v hj => ?_⟩
  · have e : (Rows.laid_internal_strconv_uint64pow10 : DataW Unit) = Lib.tabData .u64 Lib.pow10Tab := by kernel_rfl
    rw [e] at hd2
    unfold Lib.TabIs
    rw [hv2, ← Lib.cells_of_tab Tryd.underlying109 Tryd.underlying24 (by kernel_rfl) (by kernel_rfl) hd2]
  · have hs := sp_cells hd5 k hk
    have hc := World.var?_cell hg5 hv5 (k * 3 + j)
    have hj3 : j < 3 := (List.getElem?_eq_some_iff.1 hj).1
    rw [← hs, List.getElem?_take_of_lt hj3, List.getElem?_drop] at hj
    exact hc.trans (by simpa using hj)
end Go.Proofs.YthggaedpbmjclaaDoor
