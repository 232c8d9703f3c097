/- Layer 13: what comes in: points, a condition, a small one. -/
import Derived.Test.YthggaedpbmjclaaDoorCdOpen
import Derived.Test.YthggaedpbmjclaaDoorCdHI
import Derived.Deep.SlicePairs
import Derived.Deep.Slices
namespace Go.Proofs.YthggaedpbmjclaaDoor
open Go.RowKit Go.ChangeShapes Go.WideShapes
theorem bounds_i16 {z : Int} (h : (Lit.int .i16 z).wf = true) : -32768 ≤ z ∧ z < 32768 := by
  have hmin : IntKind.i16.min = -32768 := rfl
  have hmax : IntKind.i16.max = 32767 := rfl
  simp only [Lit.wf, Bool.and_eq_true, decide_eq_true_eq, hmin, hmax] at h
  omega
section
variable {H : Type} {enc : TypeId × Value → H} {W : World} {base : Nat} {hd : Bool}
set_option maxRecDepth 100000 in
theorem open_cond {r : Reach} {b0 : Nat} {v : Value} {d : DataW H} {ps : List MemPlace} {sp : Nat → Bool}
    (hval : Value.okWide Tryd.prog W r b0 26 v) (h0 : DataW.Trod enc Tryd.prog W base sp hd 26 v d ps) :
    ∃ (k : Nat) (lim : Int) (tk : Nat), v = .agg #[.int .u8 k, .int .i64 lim, .int .u64 tk] ∧ k < 256 ∧ -9223372036854775808 ≤ lim ∧ lim < 9223372036854775808 ∧ tk < 18446744073709551616 := by
  obtain ⟨cs, rfl, _⟩ := okWide_struct Tryd.underlying26 hval
  obtain ⟨fuel, hf⟩ := h0
  have hc : Tryd.prog.cellsOf 26 = 3 := by kernel_rfl
  have k0 : Tryd.prog.cellsOf 23 = 1 := by kernel_rfl
  have k1 : Tryd.prog.cellsOf 2 = 1 := by kernel_rfl
  have k2 : Tryd.prog.cellsOf 24 = 1 := by kernel_rfl
  obtain ⟨xs, n, _, hx, hl, hlen, hg⟩ := DataW.trod_struct Tryd.underlying26 hf
  rw [hc] at hl
  have hl : cs.toList.length = 3 := hl
  obtain ⟨c0, c1, c2, hcs⟩ : ∃ c0 c1 c2, cs = #[c0, c1, c2] := by
    obtain ⟨l⟩ := cs
    match l, hl with
    | [c0, c1, c2], _ => exact ⟨c0, c1, c2, rfl⟩
  subst hcs
  match xs, hlen with
  | [y0, y1, y2], _ =>
    have t0 : DataW.trod enc Tryd.prog W base sp hd n 23 (([c0, c1, c2].drop 0).take (Tryd.prog.cellsOf 23)) = some y0 := hg 0 _ rfl
    rw [k0] at t0
    have t1 : DataW.trod enc Tryd.prog W base sp hd n 2 (([c0, c1, c2].drop 1).take (Tryd.prog.cellsOf 2)) = some y1 := hg 1 _ rfl
    rw [k1] at t1
    have t2 : DataW.trod enc Tryd.prog W base sp hd n 24 (([c0, c1, c2].drop 2).take (Tryd.prog.cellsOf 24)) = some y2 := hg 2 _ rfl
    rw [k2] at t2
    obtain ⟨z0, e0, _, g0⟩ := DataW.trod_int Tryd.underlying23 t0
    obtain ⟨z1, e1, _, g1⟩ := DataW.trod_int Tryd.underlying2 t1
    obtain ⟨z2, e2, _, g2⟩ := DataW.trod_int Tryd.underlying24 t2
    obtain ⟨n0, rfl, h0⟩ := nat_of_u8 g0
    obtain rfl := (List.cons.inj e0).1
    obtain ⟨b1, b2⟩ := bounds_i64 g1
    obtain rfl := (List.cons.inj e1).1
    obtain ⟨n2, rfl, h2⟩ := nat_of_u64 g2
    obtain rfl := (List.cons.inj e2).1
    exact ⟨n0, z1, n2, rfl, h0, b1, b2, h2⟩
set_option maxRecDepth 100000 in
theorem open_small13 {r : Reach} {b0 : Nat} {v : Value} {d : DataW H} {ps : List MemPlace} {sp : Nat → Bool}
    (hval : Value.okWide Tryd.prog W r b0 29 v) (h0 : DataW.Trod enc Tryd.prog W base sp hd 29 v d ps) :
    ∃ (k : Nat) (lim : Int) (tk : Nat), v = .agg #[.int .u8 k, .int .i16 lim, .int .u8 tk] ∧ k < 256 ∧ -32768 ≤ lim ∧ lim < 32768 ∧ tk < 256 := by
  obtain ⟨cs, rfl, _⟩ := okWide_struct Tryd.underlying29 hval
  obtain ⟨fuel, hf⟩ := h0
  have hc : Tryd.prog.cellsOf 29 = 3 := by kernel_rfl
  have k0 : Tryd.prog.cellsOf 5 = 1 := by kernel_rfl
  have k1 : Tryd.prog.cellsOf 27 = 1 := by kernel_rfl
  have k2 : Tryd.prog.cellsOf 5 = 1 := by kernel_rfl
  obtain ⟨xs, n, _, hx, hl, hlen, hg⟩ := DataW.trod_struct Tryd.underlying29 hf
  rw [hc] at hl
  have hl : cs.toList.length = 3 := hl
  obtain ⟨c0, c1, c2, hcs⟩ : ∃ c0 c1 c2, cs = #[c0, c1, c2] := by
    obtain ⟨l⟩ := cs
    match l, hl with
    | [c0, c1, c2], _ => exact ⟨c0, c1, c2, rfl⟩
  subst hcs
  match xs, hlen with
  | [y0, y1, y2], _ =>
    have t0 : DataW.trod enc Tryd.prog W base sp hd n 5 (([c0, c1, c2].drop 0).take (Tryd.prog.cellsOf 5)) = some y0 := hg 0 _ rfl
    rw [k0] at t0
    have t1 : DataW.trod enc Tryd.prog W base sp hd n 27 (([c0, c1, c2].drop 1).take (Tryd.prog.cellsOf 27)) = some y1 := hg 1 _ rfl
    rw [k1] at t1
    have t2 : DataW.trod enc Tryd.prog W base sp hd n 5 (([c0, c1, c2].drop 2).take (Tryd.prog.cellsOf 5)) = some y2 := hg 2 _ rfl
    rw [k2] at t2
    obtain ⟨z0, e0, _, g0⟩ := DataW.trod_int Tryd.underlying5 t0
    obtain ⟨z1, e1, _, g1⟩ := DataW.trod_int Tryd.underlying27 t1
    obtain ⟨z2, e2, _, g2⟩ := DataW.trod_int Tryd.underlying5 t2
    obtain ⟨n0, rfl, h0⟩ := nat_of_u8 g0
    obtain rfl := (List.cons.inj e0).1
    obtain ⟨b1, b2⟩ := bounds_i16 g1
    obtain rfl := (List.cons.inj e1).1
    obtain ⟨n2, rfl, h2⟩ := nat_of_u8 g2
    obtain rfl := (List.cons.inj e2).1
    exact ⟨n0, z1, n2, rfl, h0, b1, b2, h2⟩
end
end Go.Proofs.YthggaedpbmjclaaDoor
