/- Several texts in one: FrOpen, CrcAwake, CrcBits. -/
import Derived.Lib.SlBytesConst
import Derived.StillTailTactics
import Derived.Laws.OwnMore
import Derived.Test.YtnagmopejblegaaMa16
import Derived.Test.YtnagmopejblegaaMa30
import Derived.Test.YtnagmopejblegaaMa35
import Derived.Test.YtnagmopejblegaaMa45
import Derived.Test.YtnagmopejblegaaMa52
/- Layer 5: a frame of small numbers that comes in: how it is read. -/
namespace Go.Proofs.Ytnagmopejblegaa
open Go.RowKit Go.ChangeShapes Go.WideShapes
section
variable {H : Type} {enc : TypeId × Value → H} {W : World} {base : Nat} {sp : Nat → Bool} {hd : Bool}

set_option maxRecDepth 100000 in
theorem sf_cells {fuel : Nat} {cs : List Value} {x : DataW H × List MemPlace} (hf : DataW.trod enc Try.prog W base sp hd fuel 27 cs = some x) :
    ∃ s : Sf, cs = [.int .u8 s.k, .int .u8 s.f, .int .u8 s.t, .int .u16 s.e, .int .u16 s.q, .int .u16 s.c, .int .u16 s.l, .int .u64 s.b, .bool s.i.g, .int .u8 s.i.o, .int .u8 s.i.p, .int .u8 s.i.w, .int .u16 s.i.q, .int .u16 s.i.m, .int .u16 s.i.t, .int .u8 s.i.r, .int .u8 s.i.l, .int .u8 s.i.v, .bool s.i.s] ∧ OkSf s := by
  have hc : Try.prog.cellsOf 27 = 19 := by kernel_rfl
  have kS : Try.prog.cellsOf 25 = 11 := by kernel_rfl
  have ku8 : Try.prog.cellsOf 5 = 1 := by kernel_rfl
  have ku16 : Try.prog.cellsOf 22 = 1 := by kernel_rfl
  have ku64 : Try.prog.cellsOf 23 = 1 := by kernel_rfl
  obtain ⟨xs, n, _, hx, hl, hlen, hg⟩ := DataW.trod_struct Try.underlying27 hf
  rw [hc] at hl
  match cs, hl with
  | [c0, c1, c2, c3, c4, c5, c6, c7, c8, c9, c10, c11, c12, c13, c14, c15, c16, c17, c18], _ =>
    match xs, hlen with
    | [y0, y1, y2, y3, y4, y5, y6, y7, y8], _ =>
      have t0 : DataW.trod enc Try.prog W base sp hd n 5 (([c0, c1, c2, c3, c4, c5, c6, c7, c8, c9, c10, c11, c12, c13, c14, c15, c16, c17, c18].drop 0).take (Try.prog.cellsOf 5)) = some y0 := hg 0 _ rfl
      rw [ku8] at t0
      have t1 : DataW.trod enc Try.prog W base sp hd n 5 (([c0, c1, c2, c3, c4, c5, c6, c7, c8, c9, c10, c11, c12, c13, c14, c15, c16, c17, c18].drop 1).take (Try.prog.cellsOf 5)) = some y1 := hg 1 _ rfl
      rw [ku8] at t1
      have t2 : DataW.trod enc Try.prog W base sp hd n 5 (([c0, c1, c2, c3, c4, c5, c6, c7, c8, c9, c10, c11, c12, c13, c14, c15, c16, c17, c18].drop 2).take (Try.prog.cellsOf 5)) = some y2 := hg 2 _ rfl
      rw [ku8] at t2
      have t3 : DataW.trod enc Try.prog W base sp hd n 22 (([c0, c1, c2, c3, c4, c5, c6, c7, c8, c9, c10, c11, c12, c13, c14, c15, c16, c17, c18].drop 3).take (Try.prog.cellsOf 22)) = some y3 := hg 3 _ rfl
      rw [ku16] at t3
      have t4 : DataW.trod enc Try.prog W base sp hd n 22 (([c0, c1, c2, c3, c4, c5, c6, c7, c8, c9, c10, c11, c12, c13, c14, c15, c16, c17, c18].drop 4).take (Try.prog.cellsOf 22)) = some y4 := hg 4 _ rfl
      rw [ku16] at t4
      have t5 : DataW.trod enc Try.prog W base sp hd n 22 (([c0, c1, c2, c3, c4, c5, c6, c7, c8, c9, c10, c11, c12, c13, c14, c15, c16, c17, c18].drop 5).take (Try.prog.cellsOf 22)) = some y5 := hg 5 _ rfl
      rw [ku16] at t5
      have t6 : DataW.trod enc Try.prog W base sp hd n 22 (([c0, c1, c2, c3, c4, c5, c6, c7, c8, c9, c10, c11, c12, c13, c14, c15, c16, c17, c18].drop 6).take (Try.prog.cellsOf 22)) = some y6 := hg 6 _ rfl
      rw [ku16] at t6
      have t7 : DataW.trod enc Try.prog W base sp hd n 23 (([c0, c1, c2, c3, c4, c5, c6, c7, c8, c9, c10, c11, c12, c13, c14, c15, c16, c17, c18].drop 7).take (Try.prog.cellsOf 23)) = some y7 := hg 7 _ rfl
      rw [ku64] at t7
      have t8 : DataW.trod enc Try.prog W base sp hd n 25 (([c0, c1, c2, c3, c4, c5, c6, c7, c8, c9, c10, c11, c12, c13, c14, c15, c16, c17, c18].drop 8).take (Try.prog.cellsOf 25)) = some y8 := hg 8 _ rfl
      rw [kS] at t8
      obtain ⟨z0, e0, _, g0⟩ := DataW.trod_int Try.underlying5 t0
      obtain ⟨n0, rfl, h0⟩ := nat_of_u8 g0
      obtain rfl := (List.cons.inj e0).1
      obtain ⟨z1, e1, _, g1⟩ := DataW.trod_int Try.underlying5 t1
      obtain ⟨n1, rfl, h1⟩ := nat_of_u8 g1
      obtain rfl := (List.cons.inj e1).1
      obtain ⟨z2, e2, _, g2⟩ := DataW.trod_int Try.underlying5 t2
      obtain ⟨n2, rfl, h2⟩ := nat_of_u8 g2
      obtain rfl := (List.cons.inj e2).1
      obtain ⟨z3, e3, _, g3⟩ := DataW.trod_int Try.underlying22 t3
      obtain ⟨n3, rfl, h3⟩ := nat_of_u16 g3
      obtain rfl := (List.cons.inj e3).1
      obtain ⟨z4, e4, _, g4⟩ := DataW.trod_int Try.underlying22 t4
      obtain ⟨n4, rfl, h4⟩ := nat_of_u16 g4
      obtain rfl := (List.cons.inj e4).1
      obtain ⟨z5, e5, _, g5⟩ := DataW.trod_int Try.underlying22 t5
      obtain ⟨n5, rfl, h5⟩ := nat_of_u16 g5
      obtain rfl := (List.cons.inj e5).1
      obtain ⟨z6, e6, _, g6⟩ := DataW.trod_int Try.underlying22 t6
      obtain ⟨n6, rfl, h6⟩ := nat_of_u16 g6
      obtain rfl := (List.cons.inj e6).1
      obtain ⟨z7, e7, _, g7⟩ := DataW.trod_int Try.underlying23 t7
      obtain ⟨n7, rfl, h7⟩ := nat_of_u64 g7
      obtain rfl := (List.cons.inj e7).1
      obtain ⟨s8, e8, h8⟩ := small_cells t8
      have e8' : [c8, c9, c10, c11, c12, c13, c14, c15, c16, c17, c18] = _ := e8
      refine ⟨⟨n0, n1, n2, n3, n4, n5, n6, n7, s8⟩, ?_, ⟨h0, h1, h2, h3, h4, h5, h6, h7, h8⟩⟩
      rw [show [.int .u8 n0, .int .u8 n1, .int .u8 n2, .int .u16 n3, .int .u16 n4, .int .u16 n5, .int .u16 n6, .int .u64 n7, c8, c9, c10, c11, c12, c13, c14, c15, c16, c17, c18] = [.int .u8 n0, .int .u8 n1, .int .u8 n2, .int .u16 n3, .int .u16 n4, .int .u16 n5, .int .u16 n6, .int .u64 n7] ++ [c8, c9, c10, c11, c12, c13, c14, c15, c16, c17, c18] from rfl, e8']
      rfl
set_option maxRecDepth 100000 in
theorem open_sf {r : Reach} {b0 : Nat} {v : Value} {d : DataW H} {ps : List MemPlace}
    (hval : Value.okWide Try.prog W r b0 27 v) (h0 : DataW.Trod enc Try.prog W base sp hd 27 v d ps) :
    ∃ s : Sf, v = .agg #[.int .u8 s.k, .int .u8 s.f, .int .u8 s.t, .int .u16 s.e, .int .u16 s.q, .int .u16 s.c, .int .u16 s.l, .int .u64 s.b, .bool s.i.g, .int .u8 s.i.o, .int .u8 s.i.p, .int .u8 s.i.w, .int .u16 s.i.q, .int .u16 s.i.m, .int .u16 s.i.t, .int .u8 s.i.r, .int .u8 s.i.l, .int .u8 s.i.v, .bool s.i.s] ∧ OkSf s := by
  obtain ⟨cs, rfl, _⟩ := okWide_struct Try.underlying27 hval
  obtain ⟨fuel, hf⟩ := h0
  obtain ⟨s, hs, hok⟩ := sf_cells hf
  refine ⟨s, ?_, hok⟩
  have : cs.toList = _ := hs
  rw [show cs = cs.toList.toArray by simp, this]
end
end Go.Proofs.Ytnagmopejblegaa
/- Layer 2: the fixed fact that each statement begins with. -/
namespace Go.Proofs.Ytnagmopejblegaa
open Go.RowKit

theorem sumA : sumN [49, 50, 51, 52, 53, 54, 55, 56, 57] = 3421780262 := by decide +kernel

end Go.Proofs.Ytnagmopejblegaa
/- The walk of watchfirelaw02.CrcBits. -/
namespace Go.Proofs.Ytnagmopejblegaa.crcBits
open Go.RowKit Go.Proofs.Ytnagmopejblegaa

theorem Tab_far {w : World} {g d s b : Nat} (h : Tab w g d s b) {q j : Nat} (hq : q ≠ g) (u : Value) : Tab (w.setCell ⟨q, j, none⟩ u) g d s b := by
  have far : ∀ o, (w.setCell ⟨q, j, none⟩ u).cell? ⟨g, o, none⟩ = w.cell? ⟨g, o, none⟩ := fun o => World.cell?_setCell_other w ⟨q, j, none⟩ ⟨g, o, none⟩ u (by intro e; injection e with e; exact hq e)
  exact
    { lt := by simpa using h.lt
      c0 := (far 0).trans h.c0
      c1 := (far 1).trans h.c1
      tab := fun j hj => by
        obtain ⟨x, hx, hx2⟩ := h.tab j hj
        exact ⟨x, (far _).trans hx, hx2⟩
      sums := (far 259).trans h.sums
      bytes := (far 260).trans h.bytes
      fz := fun o => by simpa using h.fz o }

theorem cellsB_set (m : List Nat) (q v : Nat) : cellsB (m.set q v) = (cellsB m).set q (.int .u8 v) := by
  simp [cellsB, encB, List.map_set]
theorem okB_set {m : List Nat} (h : OkB m) {q v : Nat} (hv : v < 256) : OkB (m.set q v) := fun x hx => by
  rcases List.mem_or_eq_of_mem_set hx with h1 | rfl
  · exact h x h1
  · exact hv
theorem shl8 (e : Nat) (h : e < 8) : IntKind.u8.wrap ((2 : Int) ^ e) = ((2 ^ e : Nat) : Int) := by
  match e, h with
  | 0, _ => rfl
  | 1, _ => rfl
  | 2, _ => rfl
  | 3, _ => rfl
  | 4, _ => rfl
  | 5, _ => rfl
  | 6, _ => rfl
  | 7, _ => rfl

end Go.Proofs.Ytnagmopejblegaa.crcBits
