/- Several texts in one: ItOpen, ItSmalls. -/
import Derived.Deep.Slices
import Derived.Deep.MidRow
import Derived.Deep.CutRange
import Derived.Test.YtgcfofnlgdfmoaaMf9
/- Layer 4: an item, small numbers, and a list of these that come in: how they are read, and how they lie. -/
namespace Go.Proofs.Ytgcfofnlgdfmoaa
open Go.RowKit Go.ChangeShapes Go.WideShapes

theorem nat_of_u64 {z : Int} (h : (Lit.int .u64 z).wf = true) : ∃ x : Nat, z = x ∧ x < 18446744073709551616 := by
  have hmin : IntKind.u64.min = 0 := rfl
  have hmax : IntKind.u64.max = 18446744073709551615 := rfl
  simp only [Lit.wf, Bool.and_eq_true, decide_eq_true_eq, hmin, hmax] at h
  exact ⟨z.toNat, by omega, by omega⟩
theorem bounds_i64 {z : Int} (h : (Lit.int .i64 z).wf = true) : -9223372036854775808 ≤ z ∧ z < 9223372036854775808 := by
  have hmin : IntKind.i64.min = -9223372036854775808 := rfl
  have hmax : IntKind.i64.max = 9223372036854775807 := rfl
  simp only [Lit.wf, Bool.and_eq_true, decide_eq_true_eq, hmin, hmax] at h
  exact ⟨by omega, by omega⟩

section
variable {H : Type} {enc : TypeId × Value → H} {W : World} {base : Nat} {sp : Nat → Bool} {hd : Bool}

set_option maxRecDepth 100000 in
/-- nine cells that read as an event -/
theorem event_cells {fuel : Nat} {cs : List Value} {x : DataW H × List MemPlace} (hf : DataW.trod enc Try.prog W base sp hd fuel 56 cs = some x) :
    ∃ (o q t : Nat) (r : ByteArray) (L : Value) (s p : Nat) (v : Int) (w : Nat) (n : Nat) (z : DataW H × List MemPlace), cs = [.int .u8 o, .int .u64 q, .int .u64 t, .string r, L, .int .u8 s, .int .u8 p, .int .i64 v, .int .u8 w] ∧
      DataW.trod enc Try.prog W base sp hd n 53 [L] = some z ∧ o < 256 ∧ q < 18446744073709551616 ∧ t < 18446744073709551616 ∧ r.size ≤ maxLen ∧ s < 256 ∧ p < 256 ∧ -9223372036854775808 ≤ v ∧ v < 9223372036854775808 ∧ w < 256 ∧
      ∃ d0 d1 d2 d5 d6 d7 d8, x.1 = .agg [d0, d1, d2, .lit (.string r.data.toList), z.1, d5, d6, d7, d8] := by
  have hc : Try.prog.cellsOf 56 = 9 := by kernel_rfl
  have k5 : Try.prog.cellsOf 5 = 1 := by kernel_rfl
  have k22 : Try.prog.cellsOf 52 = 1 := by kernel_rfl
  have k9 : Try.prog.cellsOf 9 = 1 := by kernel_rfl
  have k23 : Try.prog.cellsOf 53 = 1 := by kernel_rfl
  have k24 : Try.prog.cellsOf 54 = 1 := by kernel_rfl
  have k2 : Try.prog.cellsOf 2 = 1 := by kernel_rfl
  obtain ⟨xs, n, _, hx, hl, hlen, hg⟩ := DataW.trod_struct Try.underlying56 hf
  rw [hc] at hl
  match cs, hl with
  | [c0, c1, c2, c3, c4, c5, c6, c7, c8], _ =>
    match xs, hlen with
    | [y0, y1, y2, y3, y4, y5, y6, y7, y8], _ =>
      have t0 : DataW.trod enc Try.prog W base sp hd n 5 (([c0, c1, c2, c3, c4, c5, c6, c7, c8].drop 0).take (Try.prog.cellsOf 5)) = some y0 := hg 0 _ rfl
      rw [k5] at t0
      have t1 : DataW.trod enc Try.prog W base sp hd n 52 (([c0, c1, c2, c3, c4, c5, c6, c7, c8].drop 1).take (Try.prog.cellsOf 52)) = some y1 := hg 1 _ rfl
      rw [k22] at t1
      have t2 : DataW.trod enc Try.prog W base sp hd n 52 (([c0, c1, c2, c3, c4, c5, c6, c7, c8].drop 2).take (Try.prog.cellsOf 52)) = some y2 := hg 2 _ rfl
      rw [k22] at t2
      have t3 : DataW.trod enc Try.prog W base sp hd n 9 (([c0, c1, c2, c3, c4, c5, c6, c7, c8].drop 3).take (Try.prog.cellsOf 9)) = some y3 := hg 3 _ rfl
      rw [k9] at t3
      have t4 : DataW.trod enc Try.prog W base sp hd n 53 (([c0, c1, c2, c3, c4, c5, c6, c7, c8].drop 4).take (Try.prog.cellsOf 53)) = some y4 := hg 4 _ rfl
      rw [k23] at t4
      have t5 : DataW.trod enc Try.prog W base sp hd n 54 (([c0, c1, c2, c3, c4, c5, c6, c7, c8].drop 5).take (Try.prog.cellsOf 54)) = some y5 := hg 5 _ rfl
      rw [k24] at t5
      have t6 : DataW.trod enc Try.prog W base sp hd n 5 (([c0, c1, c2, c3, c4, c5, c6, c7, c8].drop 6).take (Try.prog.cellsOf 5)) = some y6 := hg 6 _ rfl
      rw [k5] at t6
      have t7 : DataW.trod enc Try.prog W base sp hd n 2 (([c0, c1, c2, c3, c4, c5, c6, c7, c8].drop 7).take (Try.prog.cellsOf 2)) = some y7 := hg 7 _ rfl
      rw [k2] at t7
      have t8 : DataW.trod enc Try.prog W base sp hd n 5 (([c0, c1, c2, c3, c4, c5, c6, c7, c8].drop 8).take (Try.prog.cellsOf 5)) = some y8 := hg 8 _ rfl
      rw [k5] at t8
      obtain ⟨z0, e0, _, g0⟩ := DataW.trod_int Try.underlying5 t0
      obtain ⟨z1, e1, _, g1⟩ := DataW.trod_int Try.underlying52 t1
      obtain ⟨z2, e2, _, g2⟩ := DataW.trod_int Try.underlying52 t2
      obtain ⟨s3, e3, x3, g3⟩ := DataW.trod_string Try.underlying9 t3
      obtain ⟨z5, e5, _, g5⟩ := DataW.trod_int Try.underlying54 t5
      obtain ⟨z6, e6, _, g6⟩ := DataW.trod_int Try.underlying5 t6
      obtain ⟨z7, e7, _, g7⟩ := DataW.trod_int Try.underlying2 t7
      obtain ⟨z8, e8, _, g8⟩ := DataW.trod_int Try.underlying5 t8
      obtain ⟨n0, rfl, h0⟩ := nat_of_u8 g0
      obtain rfl := (List.cons.inj e0).1
      obtain ⟨n1, rfl, h1⟩ := nat_of_u64 g1
      obtain rfl := (List.cons.inj e1).1
      obtain ⟨n2, rfl, h2⟩ := nat_of_u64 g2
      obtain rfl := (List.cons.inj e2).1
      obtain rfl := (List.cons.inj e3).1
      obtain ⟨n5, rfl, h5⟩ := nat_of_u8 g5
      obtain rfl := (List.cons.inj e5).1
      obtain ⟨n6, rfl, h6⟩ := nat_of_u8 g6
      obtain rfl := (List.cons.inj e6).1
      obtain ⟨h7, h7'⟩ := bounds_i64 g7
      obtain rfl := (List.cons.inj e7).1
      obtain ⟨n8, rfl, h8⟩ := nat_of_u8 g8
      obtain rfl := (List.cons.inj e8).1
      refine ⟨n0, n1, n2, s3, c4, n5, n6, z7, n8, n, y4, rfl, t4, h0, h1, h2, g3, h5, h6, h7, h7', h8, y0.1, y1.1, y2.1, y5.1, y6.1, y7.1, y8.1, ?_⟩
      have hy3 : y3 = (.lit (.string s3.data.toList), []) := x3
      rw [hx, hy3]
      rfl

set_option maxRecDepth 100000 in
theorem gap_cells {fuel : Nat} {cs : List Value} {x : DataW H × List MemPlace} (hf : DataW.trod enc Try.prog W base sp hd fuel 58 cs = some x) :
    ∃ (ga gf gt : Nat), cs = [.int .u8 ga, .int .u64 gf, .int .u64 gt] ∧ ga < 256 ∧ gf < 18446744073709551616 ∧ gt < 18446744073709551616 := by
  have hc : Try.prog.cellsOf 58 = 3 := by kernel_rfl
  have k5 : Try.prog.cellsOf 5 = 1 := by kernel_rfl
  have k22 : Try.prog.cellsOf 52 = 1 := by kernel_rfl
  obtain ⟨xs, n, _, hx, hl, hlen, hg⟩ := DataW.trod_struct Try.underlying58 hf
  rw [hc] at hl
  match cs, hl with
  | [c0, c1, c2], _ =>
    match xs, hlen with
    | [y0, y1, y2], _ =>
      have t0 : DataW.trod enc Try.prog W base sp hd n 5 (([c0, c1, c2].drop 0).take (Try.prog.cellsOf 5)) = some y0 := hg 0 _ rfl
      rw [k5] at t0
      have t1 : DataW.trod enc Try.prog W base sp hd n 52 (([c0, c1, c2].drop 1).take (Try.prog.cellsOf 52)) = some y1 := hg 1 _ rfl
      rw [k22] at t1
      have t2 : DataW.trod enc Try.prog W base sp hd n 52 (([c0, c1, c2].drop 2).take (Try.prog.cellsOf 52)) = some y2 := hg 2 _ rfl
      rw [k22] at t2
      obtain ⟨z0, e0, _, g0⟩ := DataW.trod_int Try.underlying5 t0
      obtain ⟨z1, e1, _, g1⟩ := DataW.trod_int Try.underlying52 t1
      obtain ⟨z2, e2, _, g2⟩ := DataW.trod_int Try.underlying52 t2
      obtain ⟨n0, rfl, h0⟩ := nat_of_u8 g0
      obtain ⟨n1, rfl, h1⟩ := nat_of_u64 g1
      obtain ⟨n2, rfl, h2⟩ := nat_of_u64 g2
      obtain rfl := (List.cons.inj e0).1
      obtain rfl := (List.cons.inj e1).1
      obtain rfl := (List.cons.inj e2).1
      exact ⟨n0, n1, n2, rfl, h0, h1, h2⟩

set_option maxRecDepth 100000 in
theorem open_item {r : Reach} {b0 : Nat} {v : Value} {d : DataW H} {ps : List MemPlace}
    (hval : Value.okWide Try.prog W r b0 60 v) (h0 : DataW.Trod enc Try.prog W base sp hd 60 v d ps) :
    ∃ (x : It) (A : Option Addr) (n c : Nat), v = .agg #[.bool x.g, .int .u8 x.o, .int .u64 x.q, .int .u64 x.t, .string x.r, .slice A n c, .int .u8 x.s, .int .u8 x.p, .int .i64 x.v, .int .u8 x.w, .int .u8 x.ga, .int .u64 x.gf, .int .u64 x.gt] ∧ n = x.l.length ∧ n ≤ maxLen ∧ OkA A n ∧ OkI x ∧ RdP W W.heap.size A x.l ∧
      ∃ d0 d1 d2 d3 d5 d6 d7 d8 d9 dL, d = .agg [d0, .agg [d1, d2, d3, .lit (.string x.r.data.toList), dL, d5, d6, d7, d8], d9] ∧ ((A = none ∧ dL = .nil ∧ x.l = []) ∨ ∃ spare, dL = .slice (x.l.map dP) spare) := by
  simp only [Value.okWide, Try.underlying60] at hval
  obtain ⟨cs, rfl, hsz, ts, hts, _, hrow⟩ := hval
  have hts' : Try.prog.cellTypes Try.prog.depth 60 = some [4, 5, 52, 52, 9, 53, 54, 5, 2, 5, 5, 52, 52] := by kernel_rfl
  rw [hts'] at hts
  obtain rfl := Option.some.inj hts
  have hc : Try.prog.cellsOf 60 = 13 := by kernel_rfl
  have k4 : Try.prog.cellsOf 4 = 1 := by kernel_rfl
  have k26 : Try.prog.cellsOf 56 = 9 := by kernel_rfl
  have k28 : Try.prog.cellsOf 58 = 3 := by kernel_rfl
  obtain ⟨fuel, hf⟩ := h0
  obtain ⟨xs, n, _, hx, _, hlen, hg⟩ := DataW.trod_struct Try.underlying60 hf
  obtain ⟨l⟩ := cs
  match l, hsz.trans hc with
  | [c0, c1, c2, c3, c4, c5, c6, c7, c8, c9, c10, c11, c12], _ =>
    match xs, hlen with
    | [y0, y1, y2], _ =>
      have t0 : DataW.trod enc Try.prog W base sp hd n 4 (([c0, c1, c2, c3, c4, c5, c6, c7, c8, c9, c10, c11, c12].drop 0).take (Try.prog.cellsOf 4)) = some y0 := hg 0 _ rfl
      rw [k4] at t0
      have t1 : DataW.trod enc Try.prog W base sp hd n 56 (([c0, c1, c2, c3, c4, c5, c6, c7, c8, c9, c10, c11, c12].drop 1).take (Try.prog.cellsOf 56)) = some y1 := hg 1 _ rfl
      rw [k26] at t1
      have t2 : DataW.trod enc Try.prog W base sp hd n 58 (([c0, c1, c2, c3, c4, c5, c6, c7, c8, c9, c10, c11, c12].drop 10).take (Try.prog.cellsOf 58)) = some y2 := hg 2 _ rfl
      rw [k28] at t2
      obtain ⟨b, e0, _⟩ := DataW.trod_bool Try.underlying4 t0
      obtain ⟨o, q, t, rr, L, s, p, v, w, m, z, e1, tL, b1, b2, b3, b4, b5, b6, b7, b7', b8, d0, d1, d2, d5, d6, d7, d8, hd1⟩ := event_cells t1
      obtain ⟨ga, gf, gt, e2, b9, b10, b11⟩ := gap_cells t2
      obtain rfl := (List.cons.inj e0).1
      have e1' : [c1, c2, c3, c4, c5, c6, c7, c8, c9] = _ := e1
      have e2' : [c10, c11, c12] = _ := e2
      simp only [List.cons.injEq, and_true] at e1' e2'
      obtain ⟨rfl, rfl, rfl, rfl, rfl, rfl, rfl, rfl, rfl⟩ := e1'
      obtain ⟨rfl, rfl, rfl⟩ := e2'
      obtain ⟨u, hu, hL⟩ := hrow 5 c5 rfl
      obtain rfl := Option.some.inj (hu : some 53 = some u)
      have hLv : Value.okWide Try.prog W r b0 53 c5 := by simp only [Value.okWide, Try.underlying53]; exact hL
      obtain ⟨A2, n2, c2', rfl⟩ := okWide_slice Try.underlying53 hLv
      obtain ⟨A, k, c, l, hv, hk, hkm, hA, hr, hok, hdl⟩ := open_pairs (d := z.1) (ps := z.2) hLv ⟨m, by simpa [Value.cells] using tL⟩
      obtain ⟨rfl, rfl, rfl⟩ : A2 = A ∧ n2 = k ∧ c2' = c := by injection hv with h1 h2 h3; exact ⟨h1, h2, h3⟩
      refine ⟨⟨b, o, q, t, rr, l, s, p, v, w, ga, gf, gt⟩, A2, n2, c2', rfl, hk, hkm, hA, ⟨b1, b2, b3, b4, hok, b5, b6, b7, b7', b8, b9, b10, b11⟩, hr, y0.1, d0, d1, d2, d5, d6, d7, d8, y2.1, z.1, ?_, hdl⟩
      rw [(Prod.mk.inj hx).1]
      show DataW.agg [y0.1, y1.1, y2.1] = _
      rw [hd1]

set_option maxRecDepth 100000 in
/-- eleven cells that read as small numbers -/
theorem small_cells {fuel : Nat} {cs : List Value} {x : DataW H × List MemPlace} (hf : DataW.trod enc Try.prog W base sp hd fuel 51 cs = some x) :
    ∃ s : Sm, cs = [.bool s.g, .int .u8 s.o, .int .u8 s.p, .int .u8 s.w, .int .u16 s.q, .int .u16 s.m, .int .u16 s.t, .int .u8 s.r, .int .u8 s.l, .int .u8 s.v, .bool s.s] ∧ OkS s := by
  have hc : Try.prog.cellsOf 51 = 11 := by kernel_rfl
  have k4 : Try.prog.cellsOf 4 = 1 := by kernel_rfl
  have k5 : Try.prog.cellsOf 5 = 1 := by kernel_rfl
  have k31 : Try.prog.cellsOf 23 = 1 := by kernel_rfl
  obtain ⟨xs, n, _, hx, hl, hlen, hg⟩ := DataW.trod_struct Try.underlying51 hf
  rw [hc] at hl
  match cs, hl with
  | [c0, c1, c2, c3, c4, c5, c6, c7, c8, c9, c10], _ =>
    match xs, hlen with
    | [y0, y1, y2, y3, y4, y5, y6, y7, y8, y9, y10], _ =>
      have t0 : DataW.trod enc Try.prog W base sp hd n 4 (([c0, c1, c2, c3, c4, c5, c6, c7, c8, c9, c10].drop 0).take (Try.prog.cellsOf 4)) = some y0 := hg 0 _ rfl
      rw [k4] at t0
      have t1 : DataW.trod enc Try.prog W base sp hd n 5 (([c0, c1, c2, c3, c4, c5, c6, c7, c8, c9, c10].drop 1).take (Try.prog.cellsOf 5)) = some y1 := hg 1 _ rfl
      rw [k5] at t1
      have t2 : DataW.trod enc Try.prog W base sp hd n 5 (([c0, c1, c2, c3, c4, c5, c6, c7, c8, c9, c10].drop 2).take (Try.prog.cellsOf 5)) = some y2 := hg 2 _ rfl
      rw [k5] at t2
      have t3 : DataW.trod enc Try.prog W base sp hd n 5 (([c0, c1, c2, c3, c4, c5, c6, c7, c8, c9, c10].drop 3).take (Try.prog.cellsOf 5)) = some y3 := hg 3 _ rfl
      rw [k5] at t3
      have t4 : DataW.trod enc Try.prog W base sp hd n 23 (([c0, c1, c2, c3, c4, c5, c6, c7, c8, c9, c10].drop 4).take (Try.prog.cellsOf 23)) = some y4 := hg 4 _ rfl
      rw [k31] at t4
      have t5 : DataW.trod enc Try.prog W base sp hd n 23 (([c0, c1, c2, c3, c4, c5, c6, c7, c8, c9, c10].drop 5).take (Try.prog.cellsOf 23)) = some y5 := hg 5 _ rfl
      rw [k31] at t5
      have t6 : DataW.trod enc Try.prog W base sp hd n 23 (([c0, c1, c2, c3, c4, c5, c6, c7, c8, c9, c10].drop 6).take (Try.prog.cellsOf 23)) = some y6 := hg 6 _ rfl
      rw [k31] at t6
      have t7 : DataW.trod enc Try.prog W base sp hd n 5 (([c0, c1, c2, c3, c4, c5, c6, c7, c8, c9, c10].drop 7).take (Try.prog.cellsOf 5)) = some y7 := hg 7 _ rfl
      rw [k5] at t7
      have t8 : DataW.trod enc Try.prog W base sp hd n 5 (([c0, c1, c2, c3, c4, c5, c6, c7, c8, c9, c10].drop 8).take (Try.prog.cellsOf 5)) = some y8 := hg 8 _ rfl
      rw [k5] at t8
      have t9 : DataW.trod enc Try.prog W base sp hd n 5 (([c0, c1, c2, c3, c4, c5, c6, c7, c8, c9, c10].drop 9).take (Try.prog.cellsOf 5)) = some y9 := hg 9 _ rfl
      rw [k5] at t9
      have t10 : DataW.trod enc Try.prog W base sp hd n 4 (([c0, c1, c2, c3, c4, c5, c6, c7, c8, c9, c10].drop 10).take (Try.prog.cellsOf 4)) = some y10 := hg 10 _ rfl
      rw [k4] at t10
      obtain ⟨n0, e0, _⟩ := DataW.trod_bool Try.underlying4 t0
      obtain rfl := (List.cons.inj e0).1
      obtain ⟨z1, e1, _, g1⟩ := DataW.trod_int Try.underlying5 t1
      obtain ⟨n1, rfl, h1⟩ := nat_of_u8 g1
      obtain rfl := (List.cons.inj e1).1
      obtain ⟨z2, e2, _, g2⟩ := DataW.trod_int Try.underlying5 t2
      obtain ⟨n2, rfl, h2⟩ := nat_of_u8 g2
      obtain rfl := (List.cons.inj e2).1
      obtain ⟨z3, e3, _, g3⟩ := DataW.trod_int Try.underlying5 t3
      obtain ⟨n3, rfl, h3⟩ := nat_of_u8 g3
      obtain rfl := (List.cons.inj e3).1
      obtain ⟨z4, e4, _, g4⟩ := DataW.trod_int Try.underlying23 t4
      obtain ⟨n4, rfl, h4⟩ := nat_of_u16 g4
      obtain rfl := (List.cons.inj e4).1
      obtain ⟨z5, e5, _, g5⟩ := DataW.trod_int Try.underlying23 t5
      obtain ⟨n5, rfl, h5⟩ := nat_of_u16 g5
      obtain rfl := (List.cons.inj e5).1
      obtain ⟨z6, e6, _, g6⟩ := DataW.trod_int Try.underlying23 t6
      obtain ⟨n6, rfl, h6⟩ := nat_of_u16 g6
      obtain rfl := (List.cons.inj e6).1
      obtain ⟨z7, e7, _, g7⟩ := DataW.trod_int Try.underlying5 t7
      obtain ⟨n7, rfl, h7⟩ := nat_of_u8 g7
      obtain rfl := (List.cons.inj e7).1
      obtain ⟨z8, e8, _, g8⟩ := DataW.trod_int Try.underlying5 t8
      obtain ⟨n8, rfl, h8⟩ := nat_of_u8 g8
      obtain rfl := (List.cons.inj e8).1
      obtain ⟨z9, e9, _, g9⟩ := DataW.trod_int Try.underlying5 t9
      obtain ⟨n9, rfl, h9⟩ := nat_of_u8 g9
      obtain rfl := (List.cons.inj e9).1
      obtain ⟨n10, e10, _⟩ := DataW.trod_bool Try.underlying4 t10
      obtain rfl := (List.cons.inj e10).1
      exact ⟨⟨n0, n1, n2, n3, n4, n5, n6, n7, n8, n9, n10⟩, rfl, ⟨h1, h2, h3, h4, h5, h6, h7, h8, h9⟩⟩
set_option maxRecDepth 100000 in
theorem open_small {r : Reach} {b0 : Nat} {v : Value} {d : DataW H} {ps : List MemPlace}
    (hval : Value.okWide Try.prog W r b0 51 v) (h0 : DataW.Trod enc Try.prog W base sp hd 51 v d ps) :
    ∃ s : Sm, v = .agg #[.bool s.g, .int .u8 s.o, .int .u8 s.p, .int .u8 s.w, .int .u16 s.q, .int .u16 s.m, .int .u16 s.t, .int .u8 s.r, .int .u8 s.l, .int .u8 s.v, .bool s.s] ∧ OkS s := by
  obtain ⟨cs, rfl, _⟩ := okWide_struct Try.underlying51 hval
  obtain ⟨fuel, hf⟩ := h0
  obtain ⟨s, hs, hok⟩ := small_cells hf
  refine ⟨s, ?_, hok⟩
  have : cs.toList = _ := hs
  rw [show cs = cs.toList.toArray by simp, this]
end
end Go.Proofs.Ytgcfofnlgdfmoaa
/- Layer 4: a slice of small numbers that comes in: how it reads. -/
namespace Go.Proofs.Ytgcfofnlgdfmoaa
open Go.RowKit Go.ChangeShapes Go.WideShapes

def smC (s : Sm) : List Value := [.bool s.g, .int .u8 s.o, .int .u8 s.p, .int .u8 s.w, .int .u16 s.q, .int .u16 s.m, .int .u16 s.t, .int .u8 s.r, .int .u8 s.l, .int .u8 s.v, .bool s.s]
/-- a slice of small numbers reads as a list -/
def RdM (w : World) (B : Nat) (A : Option Addr) (l : List Sm) : Prop := 0 < l.length → ∃ b o, A = some ⟨b, o, none⟩ ∧ b < B ∧ ∀ (k : Nat) (s : Sm), l[k]? = some s → w.rangeAt b (o + k * 11) (smC s)
theorem range_keep {w w' : World} {b o : Nat} {cs : List Value} (h : w.rangeAt b o cs) (hb : w'.heap[b]? = w.heap[b]?) : w'.rangeAt b o cs := fun j v hv => (World.cell?_of_block hb).trans (h j v hv)
theorem RdM.at_ {w : World} {B : Nat} {A : Option Addr} {l : List Sm} (h : RdM w B A l) {k : Nat} (hk : k < l.length) : ∃ b o s, A = some ⟨b, o, none⟩ ∧ b < B ∧ l[k]? = some s ∧ w.rangeAt b (o + k * 11) (smC s) := by
  obtain ⟨b, o, h1, h2, h3⟩ := h (by omega)
  exact ⟨b, o, l[k], h1, h2, List.getElem?_eq_getElem hk, h3 k _ (List.getElem?_eq_getElem hk)⟩
section
variable {H : Type} {enc : TypeId × Value → H} {W : World} {base : Nat} {sp : Nat → Bool} {hd : Bool}
set_option maxRecDepth 100000 in
theorem open_smalls {r : Reach} {b0 : Nat} {v : Value} {d : DataW H} {ps : List MemPlace}
    (hval : Value.okWide Try.prog W r b0 45 v) (h0 : DataW.Trod enc Try.prog W base sp hd 45 v d ps) :
    ∃ (A : Option Addr) (n c : Nat) (l : List Sm), v = .slice A n c ∧ n = l.length ∧ n ≤ maxLen ∧ n ≤ c ∧ RdM W W.heap.size A l ∧ (∀ s ∈ l, OkS s) := by
  obtain ⟨a, n, c, rfl⟩ := okWide_slice Try.underlying45 hval
  have hsp : ∀ ad, a = some ad → ad.spot = none := by
    rintro ad rfl
    simp only [Value.okWide, Try.underlying45, Cell.okWide, Cell.ok] at hval
    exact hval.2.2.2.1
  have hc3 : Try.prog.cellsOf 51 = 11 := by kernel_rfl
  obtain ⟨fuel, hf⟩ := h0
  rcases Go.Deep.open_slice Try.underlying45 hf with ⟨hcs, _⟩ | ⟨ad, len, cap, m, k, D, Pl, hcs, hb, hl, hm, hmm, _, hx⟩
  · have e : a = none ∧ n = 0 ∧ c = 0 := by simpa [Value.cells] using hcs
    obtain ⟨rfl, rfl, rfl⟩ := e
    exact ⟨none, 0, 0, [], rfl, rfl, Nat.zero_le _, Nat.le_refl _, fun h => absurd h (by simp), fun x h => (by cases h)⟩
  · have e : a = some ad ∧ n = len ∧ c = cap := by simpa [Value.cells] using hcs
    obtain ⟨rfl, rfl, rfl⟩ := e
    have hspot := hsp ad rfl
    obtain ⟨b, o, s⟩ := ad
    obtain rfl : s = none := hspot
    have hlm : n ≤ m := by rw [hmm]; split <;> omega
    have each : ∀ i, i < n → ∃ x : Sm, W.rangeAt b (o + i * 11) (smC x) ∧ OkS x := fun i hi => by
      obtain ⟨cs', h1, h2⟩ := hx i (by omega)
      rw [hc3] at h1
      obtain ⟨_, hlen, hcell⟩ := World.cells?_some h1
      obtain ⟨y, rfl, hok⟩ := small_cells h2
      refine ⟨y, fun j v hv => ?_, hok⟩
      have hj : j < 11 := by rw [← hlen]; exact (List.getElem?_eq_some_iff.1 hv).1
      have g0 := hcell j hj
      rw [Addr.add_lit, Addr.add_mid] at g0
      exact g0.trans hv
    have pick : ∃ f : Nat → Sm, ∀ i, i < n → W.rangeAt b (o + i * 11) (smC (f i)) ∧ OkS (f i) :=
      ⟨fun i => if h : i < n then (each i h).choose else ⟨false, 0, 0, 0, 0, 0, 0, 0, 0, 0, false⟩, fun i h => by simp only [dif_pos h]; exact (each i h).choose_spec⟩
    obtain ⟨f, hf'⟩ := pick
    have hget : ∀ (i : Nat) (p : Sm), ((List.range n).map f)[i]? = some p → i < n ∧ p = f i := fun i p hp => by
      rw [List.getElem?_map] at hp
      obtain ⟨j, hj, rfl⟩ := Option.map_eq_some_iff.1 hp
      obtain ⟨h1, h2⟩ := List.getElem?_eq_some_iff.1 hj
      rw [List.length_range] at h1
      rw [List.getElem_range] at h2
      exact ⟨h1, by rw [h2]⟩
    refine ⟨some ⟨b, o, none⟩, n, c, (List.range n).map f, rfl, by simp, Nat.le_trans hl hm, hl, fun h0 => ⟨b, o, rfl, ?_, fun i p hp => ?_⟩, fun x hx => ?_⟩
    · have h0' : 0 < n := by simpa using h0
      exact World.block_lt_of_cell? _ _ ((hf' 0 h0').1 0 _ rfl)
    · obtain ⟨hin, rfl⟩ := hget i p hp
      exact (hf' i hin).1
    · simp only [List.mem_map, List.mem_range] at hx
      obtain ⟨i, hi, rfl⟩ := hx
      exact (hf' i hi).2
end
end Go.Proofs.Ytgcfofnlgdfmoaa
