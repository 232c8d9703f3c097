/- Layer 4: an item, small numbers, and a list of these that come in: how they are read, and how they lie. -/
import Derived.Test.YtileaoanekphaaaItSmallAll
import Derived.Test.YtileaoanekphaaaPairs
import Derived.Test.YtileaoanekphaaaOpen
import Derived.Deep.Slices
namespace Go.Proofs.Ytileaoanekphaaa
open Go.RowKit Go.ChangeShapes Go.WideShapes

theorem nat_of_u64 {z : Int} (h : (Lit.int .u64 z).wf = true) : ∃ x : Nat, z = x ∧ x < 18446744073709551616 := by
  have hmin : IntKind.u64.min = 0 := rfl
  have hmax : IntKind.u64.max = 18446744073709551615 := rfl
  simp only [Lit.wf, Bool.and_eq_true, decide_eq_true_eq, hmin, hmax] at h
  exact ⟨z.toNat, by omega, by omega⟩
theorem bounds_i64 {z : Int} (h : (Lit.int .i64 z).wf = true) : -9223372036854775808 ≤ z ∧ z < 9223372036854775808 := by
  have hmin : IntKind.i64.min = -9223372036854775808 := rfl
  have hmax : IntKind.i64.max = 9223372036854775807 := rfl
  simp only [Lit.wf, Bool.and_eq_true, decide_eq_true_eq, hmin, hmax] at h
  exact ⟨by omega, by omega⟩

section
variable {H : Type} {enc : TypeId × Value → H} {W : World} {base : Nat} {sp : Nat → Bool} {hd : Bool}

set_option maxRecDepth 100000 in
/-- nine cells that read as an event -/
theorem event_cells {fuel : Nat} {cs : List Value} {x : DataW H × List MemPlace} (hf : DataW.trod enc Try.prog W base sp hd fuel 39 cs = some x) :
    ∃ (o q t : Nat) (r : ByteArray) (L : Value) (s p : Nat) (v : Int) (w : Nat) (n : Nat) (z : DataW H × List MemPlace), cs = [.int .u8 o, .int .u64 q, .int .u64 t, .string r, L, .int .u8 s, .int .u8 p, .int .i64 v, .int .u8 w] ∧
      DataW.trod enc Try.prog W base sp hd n 36 [L] = some z ∧ o < 256 ∧ q < 18446744073709551616 ∧ t < 18446744073709551616 ∧ r.size ≤ maxLen ∧ s < 256 ∧ p < 256 ∧ -9223372036854775808 ≤ v ∧ v < 9223372036854775808 ∧ w < 256 ∧
      ∃ d0 d1 d2 d5 d6 d7 d8, x.1 = .agg [d0, d1, d2, .lit (.string r.data.toList), z.1, d5, d6, d7, d8] := by
  have hc : Try.prog.cellsOf 39 = 9 := by kernel_rfl
  have k5 : Try.prog.cellsOf 5 = 1 := by kernel_rfl
  have k22 : Try.prog.cellsOf 29 = 1 := by kernel_rfl
  have k9 : Try.prog.cellsOf 9 = 1 := by kernel_rfl
  have k23 : Try.prog.cellsOf 36 = 1 := by kernel_rfl
  have k24 : Try.prog.cellsOf 37 = 1 := by kernel_rfl
  have k2 : Try.prog.cellsOf 2 = 1 := by kernel_rfl
  obtain ⟨xs, n, _, hx, hl, hlen, hg⟩ := DataW.trod_struct Try.underlying39 hf
  rw [hc] at hl
  match cs, hl with
  | [c0, c1, c2, c3, c4, c5, c6, c7, c8], _ =>
    match xs, hlen with
    | [y0, y1, y2, y3, y4, y5, y6, y7, y8], _ =>
      have t0 : DataW.trod enc Try.prog W base sp hd n 5 (([c0, c1, c2, c3, c4, c5, c6, c7, c8].drop 0).take (Try.prog.cellsOf 5)) = some y0 := hg 0 _ rfl
      rw [k5] at t0
      have t1 : DataW.trod enc Try.prog W base sp hd n 29 (([c0, c1, c2, c3, c4, c5, c6, c7, c8].drop 1).take (Try.prog.cellsOf 29)) = some y1 := hg 1 _ rfl
      rw [k22] at t1
      have t2 : DataW.trod enc Try.prog W base sp hd n 29 (([c0, c1, c2, c3, c4, c5, c6, c7, c8].drop 2).take (Try.prog.cellsOf 29)) = some y2 := hg 2 _ rfl
      rw [k22] at t2
      have t3 : DataW.trod enc Try.prog W base sp hd n 9 (([c0, c1, c2, c3, c4, c5, c6, c7, c8].drop 3).take (Try.prog.cellsOf 9)) = some y3 := hg 3 _ rfl
      rw [k9] at t3
      have t4 : DataW.trod enc Try.prog W base sp hd n 36 (([c0, c1, c2, c3, c4, c5, c6, c7, c8].drop 4).take (Try.prog.cellsOf 36)) = some y4 := hg 4 _ rfl
      rw [k23] at t4
      have t5 : DataW.trod enc Try.prog W base sp hd n 37 (([c0, c1, c2, c3, c4, c5, c6, c7, c8].drop 5).take (Try.prog.cellsOf 37)) = some y5 := hg 5 _ rfl
      rw [k24] at t5
      have t6 : DataW.trod enc Try.prog W base sp hd n 5 (([c0, c1, c2, c3, c4, c5, c6, c7, c8].drop 6).take (Try.prog.cellsOf 5)) = some y6 := hg 6 _ rfl
      rw [k5] at t6
      have t7 : DataW.trod enc Try.prog W base sp hd n 2 (([c0, c1, c2, c3, c4, c5, c6, c7, c8].drop 7).take (Try.prog.cellsOf 2)) = some y7 := hg 7 _ rfl
      rw [k2] at t7
      have t8 : DataW.trod enc Try.prog W base sp hd n 5 (([c0, c1, c2, c3, c4, c5, c6, c7, c8].drop 8).take (Try.prog.cellsOf 5)) = some y8 := hg 8 _ rfl
      rw [k5] at t8
      obtain ⟨z0, e0, _, g0⟩ := DataW.trod_int Try.underlying5 t0
      obtain ⟨z1, e1, _, g1⟩ := DataW.trod_int Try.underlying29 t1
      obtain ⟨z2, e2, _, g2⟩ := DataW.trod_int Try.underlying29 t2
      obtain ⟨s3, e3, x3, g3⟩ := DataW.trod_string Try.underlying9 t3
      obtain ⟨z5, e5, _, g5⟩ := DataW.trod_int Try.underlying37 t5
      obtain ⟨z6, e6, _, g6⟩ := DataW.trod_int Try.underlying5 t6
      obtain ⟨z7, e7, _, g7⟩ := DataW.trod_int Try.underlying2 t7
      obtain ⟨z8, e8, _, g8⟩ := DataW.trod_int Try.underlying5 t8
      obtain ⟨n0, rfl, h0⟩ := nat_of_u8 g0
      obtain rfl := (List.cons.inj e0).1
      obtain ⟨n1, rfl, h1⟩ := nat_of_u64 g1
      obtain rfl := (List.cons.inj e1).1
      obtain ⟨n2, rfl, h2⟩ := nat_of_u64 g2
      obtain rfl := (List.cons.inj e2).1
      obtain rfl := (List.cons.inj e3).1
      obtain ⟨n5, rfl, h5⟩ := nat_of_u8 g5
      obtain rfl := (List.cons.inj e5).1
      obtain ⟨n6, rfl, h6⟩ := nat_of_u8 g6
      obtain rfl := (List.cons.inj e6).1
      obtain ⟨h7, h7'⟩ := bounds_i64 g7
      obtain rfl := (List.cons.inj e7).1
      obtain ⟨n8, rfl, h8⟩ := nat_of_u8 g8
      obtain rfl := (List.cons.inj e8).1
      refine ⟨n0, n1, n2, s3, c4, n5, n6, z7, n8, n, y4, rfl, t4, h0, h1, h2, g3, h5, h6, h7, h7', h8, y0.1, y1.1, y2.1, y5.1, y6.1, y7.1, y8.1, ?_⟩
      have hy3 : y3 = (.lit (.string s3.data.toList), []) := x3
      rw [hx, hy3]
      rfl

set_option maxRecDepth 100000 in
theorem gap_cells {fuel : Nat} {cs : List Value} {x : DataW H × List MemPlace} (hf : DataW.trod enc Try.prog W base sp hd fuel 41 cs = some x) :
    ∃ (ga gf gt : Nat), cs = [.int .u8 ga, .int .u64 gf, .int .u64 gt] ∧ ga < 256 ∧ gf < 18446744073709551616 ∧ gt < 18446744073709551616 := by
  have hc : Try.prog.cellsOf 41 = 3 := by kernel_rfl
  have k5 : Try.prog.cellsOf 5 = 1 := by kernel_rfl
  have k22 : Try.prog.cellsOf 29 = 1 := by kernel_rfl
  obtain ⟨xs, n, _, hx, hl, hlen, hg⟩ := DataW.trod_struct Try.underlying41 hf
  rw [hc] at hl
  match cs, hl with
  | [c0, c1, c2], _ =>
    match xs, hlen with
    | [y0, y1, y2], _ =>
      have t0 : DataW.trod enc Try.prog W base sp hd n 5 (([c0, c1, c2].drop 0).take (Try.prog.cellsOf 5)) = some y0 := hg 0 _ rfl
      rw [k5] at t0
      have t1 : DataW.trod enc Try.prog W base sp hd n 29 (([c0, c1, c2].drop 1).take (Try.prog.cellsOf 29)) = some y1 := hg 1 _ rfl
      rw [k22] at t1
      have t2 : DataW.trod enc Try.prog W base sp hd n 29 (([c0, c1, c2].drop 2).take (Try.prog.cellsOf 29)) = some y2 := hg 2 _ rfl
      rw [k22] at t2
      obtain ⟨z0, e0, _, g0⟩ := DataW.trod_int Try.underlying5 t0
      obtain ⟨z1, e1, _, g1⟩ := DataW.trod_int Try.underlying29 t1
      obtain ⟨z2, e2, _, g2⟩ := DataW.trod_int Try.underlying29 t2
      obtain ⟨n0, rfl, h0⟩ := nat_of_u8 g0
      obtain ⟨n1, rfl, h1⟩ := nat_of_u64 g1
      obtain ⟨n2, rfl, h2⟩ := nat_of_u64 g2
      obtain rfl := (List.cons.inj e0).1
      obtain rfl := (List.cons.inj e1).1
      obtain rfl := (List.cons.inj e2).1
      exact ⟨n0, n1, n2, rfl, h0, h1, h2⟩

set_option maxRecDepth 100000 in
theorem open_item {r : Reach} {b0 : Nat} {v : Value} {d : DataW H} {ps : List MemPlace}
    (hval : Value.okWide Try.prog W r b0 43 v) (h0 : DataW.Trod enc Try.prog W base sp hd 43 v d ps) :
    ∃ (x : It) (A : Option Addr) (n c : Nat), v = .agg #[.bool x.g, .int .u8 x.o, .int .u64 x.q, .int .u64 x.t, .string x.r, .slice A n c, .int .u8 x.s, .int .u8 x.p, .int .i64 x.v, .int .u8 x.w, .int .u8 x.ga, .int .u64 x.gf, .int .u64 x.gt] ∧ n = x.l.length ∧ n ≤ maxLen ∧ OkA A n ∧ OkI x ∧ RdP W W.heap.size A x.l ∧
      ∃ d0 d1 d2 d3 d5 d6 d7 d8 d9 dL, d = .agg [d0, .agg [d1, d2, d3, .lit (.string x.r.data.toList), dL, d5, d6, d7, d8], d9] ∧ ((A = none ∧ dL = .nil ∧ x.l = []) ∨ ∃ spare, dL = .slice (x.l.map dP) spare) := by
  simp only [Value.okWide, Try.underlying43] at hval
  obtain ⟨cs, rfl, hsz, ts, hts, _, hrow⟩ := hval
  have hts' : Try.prog.cellTypes Try.prog.depth 43 = some [4, 5, 29, 29, 9, 36, 37, 5, 2, 5, 5, 29, 29] := by kernel_rfl
  rw [hts'] at hts
  obtain rfl := Option.some.inj hts
  have hc : Try.prog.cellsOf 43 = 13 := by kernel_rfl
  have k4 : Try.prog.cellsOf 4 = 1 := by kernel_rfl
  have k26 : Try.prog.cellsOf 39 = 9 := by kernel_rfl
  have k28 : Try.prog.cellsOf 41 = 3 := by kernel_rfl
  obtain ⟨fuel, hf⟩ := h0
  obtain ⟨xs, n, _, hx, _, hlen, hg⟩ := DataW.trod_struct Try.underlying43 hf
  obtain ⟨l⟩ := cs
  match l, hsz.trans hc with
  | [c0, c1, c2, c3, c4, c5, c6, c7, c8, c9, c10, c11, c12], _ =>
    match xs, hlen with
    | [y0, y1, y2], _ =>
      have t0 : DataW.trod enc Try.prog W base sp hd n 4 (([c0, c1, c2, c3, c4, c5, c6, c7, c8, c9, c10, c11, c12].drop 0).take (Try.prog.cellsOf 4)) = some y0 := hg 0 _ rfl
      rw [k4] at t0
      have t1 : DataW.trod enc Try.prog W base sp hd n 39 (([c0, c1, c2, c3, c4, c5, c6, c7, c8, c9, c10, c11, c12].drop 1).take (Try.prog.cellsOf 39)) = some y1 := hg 1 _ rfl
      rw [k26] at t1
      have t2 : DataW.trod enc Try.prog W base sp hd n 41 (([c0, c1, c2, c3, c4, c5, c6, c7, c8, c9, c10, c11, c12].drop 10).take (Try.prog.cellsOf 41)) = some y2 := hg 2 _ rfl
      rw [k28] at t2
      obtain ⟨b, e0, _⟩ := DataW.trod_bool Try.underlying4 t0
      obtain ⟨o, q, t, rr, L, s, p, v, w, m, z, e1, tL, b1, b2, b3, b4, b5, b6, b7, b7', b8, d0, d1, d2, d5, d6, d7, d8, hd1⟩ := event_cells t1
      obtain ⟨ga, gf, gt, e2, b9, b10, b11⟩ := gap_cells t2
      obtain rfl := (List.cons.inj e0).1
      have e1' : [c1, c2, c3, c4, c5, c6, c7, c8, c9] = _ := e1
      have e2' : [c10, c11, c12] = _ := e2
      simp only [List.cons.injEq, and_true] at e1' e2'
      obtain ⟨rfl, rfl, rfl, rfl, rfl, rfl, rfl, rfl, rfl⟩ := e1'
      obtain ⟨rfl, rfl, rfl⟩ := e2'
      obtain ⟨u, hu, hL⟩ := hrow 5 c5 rfl
      obtain rfl := Option.some.inj (hu : some 36 = some u)
      have hLv : Value.okWide Try.prog W r b0 36 c5 := by simp only [Value.okWide, Try.underlying36]; exact hL
      obtain ⟨A2, n2, c2', rfl⟩ := okWide_slice Try.underlying36 hLv
      obtain ⟨A, k, c, l, hv, hk, hkm, hA, hr, hok, hdl⟩ := open_pairs (d := z.1) (ps := z.2) hLv ⟨m, by simpa [Value.cells] using tL⟩
      obtain ⟨rfl, rfl, rfl⟩ : A2 = A ∧ n2 = k ∧ c2' = c := by injection hv with h1 h2 h3; exact ⟨h1, h2, h3⟩
      refine ⟨⟨b, o, q, t, rr, l, s, p, v, w, ga, gf, gt⟩, A2, n2, c2', rfl, hk, hkm, hA, ⟨b1, b2, b3, b4, hok, b5, b6, b7, b7', b8, b9, b10, b11⟩, hr, y0.1, d0, d1, d2, d5, d6, d7, d8, y2.1, z.1, ?_, hdl⟩
      rw [(Prod.mk.inj hx).1]
      show DataW.agg [y0.1, y1.1, y2.1] = _
      rw [hd1]

set_option maxRecDepth 100000 in
/-- eleven cells that read as small numbers -/
theorem small_cells {fuel : Nat} {cs : List Value} {x : DataW H × List MemPlace} (hf : DataW.trod enc Try.prog W base sp hd fuel 35 cs = some x) :
    ∃ s : Sm, cs = [.bool s.g, .int .u8 s.o, .int .u8 s.p, .int .u8 s.w, .int .u16 s.q, .int .u16 s.m, .int .u16 s.t, .int .u8 s.r, .int .u8 s.l, .int .u8 s.v, .bool s.s] ∧ OkS s := by
  have hc : Try.prog.cellsOf 35 = 11 := by kernel_rfl
  have k4 : Try.prog.cellsOf 4 = 1 := by kernel_rfl
  have k5 : Try.prog.cellsOf 5 = 1 := by kernel_rfl
  have k31 : Try.prog.cellsOf 33 = 1 := by kernel_rfl
  obtain ⟨xs, n, _, hx, hl, hlen, hg⟩ := DataW.trod_struct Try.underlying35 hf
  rw [hc] at hl
  match cs, hl with
  | [c0, c1, c2, c3, c4, c5, c6, c7, c8, c9, c10], _ =>
    match xs, hlen with
    | [y0, y1, y2, y3, y4, y5, y6, y7, y8, y9, y10], _ =>
      have t0 : DataW.trod enc Try.prog W base sp hd n 4 (([c0, c1, c2, c3, c4, c5, c6, c7, c8, c9, c10].drop 0).take (Try.prog.cellsOf 4)) = some y0 := hg 0 _ rfl
      rw [k4] at t0
      have t1 : DataW.trod enc Try.prog W base sp hd n 5 (([c0, c1, c2, c3, c4, c5, c6, c7, c8, c9, c10].drop 1).take (Try.prog.cellsOf 5)) = some y1 := hg 1 _ rfl
      rw [k5] at t1
      have t2 : DataW.trod enc Try.prog W base sp hd n 5 (([c0, c1, c2, c3, c4, c5, c6, c7, c8, c9, c10].drop 2).take (Try.prog.cellsOf 5)) = some y2 := hg 2 _ rfl
      rw [k5] at t2
      have t3 : DataW.trod enc Try.prog W base sp hd n 5 (([c0, c1, c2, c3, c4, c5, c6, c7, c8, c9, c10].drop 3).take (Try.prog.cellsOf 5)) = some y3 := hg 3 _ rfl
      rw [k5] at t3
      have t4 : DataW.trod enc Try.prog W base sp hd n 33 (([c0, c1, c2, c3, c4, c5, c6, c7, c8, c9, c10].drop 4).take (Try.prog.cellsOf 33)) = some y4 := hg 4 _ rfl
      rw [k31] at t4
      have t5 : DataW.trod enc Try.prog W base sp hd n 33 (([c0, c1, c2, c3, c4, c5, c6, c7, c8, c9, c10].drop 5).take (Try.prog.cellsOf 33)) = some y5 := hg 5 _ rfl
      rw [k31] at t5
      have t6 : DataW.trod enc Try.prog W base sp hd n 33 (([c0, c1, c2, c3, c4, c5, c6, c7, c8, c9, c10].drop 6).take (Try.prog.cellsOf 33)) = some y6 := hg 6 _ rfl
      rw [k31] at t6
      have t7 : DataW.trod enc Try.prog W base sp hd n 5 (([c0, c1, c2, c3, c4, c5, c6, c7, c8, c9, c10].drop 7).take (Try.prog.cellsOf 5)) = some y7 := hg 7 _ rfl
      rw [k5] at t7
      have t8 : DataW.trod enc Try.prog W base sp hd n 5 (([c0, c1, c2, c3, c4, c5, c6, c7, c8, c9, c10].drop 8).take (Try.prog.cellsOf 5)) = some y8 := hg 8 _ rfl
      rw [k5] at t8
      have t9 : DataW.trod enc Try.prog W base sp hd n 5 (([c0, c1, c2, c3, c4, c5, c6, c7, c8, c9, c10].drop 9).take (Try.prog.cellsOf 5)) = some y9 := hg 9 _ rfl
      rw [k5] at t9
      have t10 : DataW.trod enc Try.prog W base sp hd n 4 (([c0, c1, c2, c3, c4, c5, c6, c7, c8, c9, c10].drop 10).take (Try.prog.cellsOf 4)) = some y10 := hg 10 _ rfl
      rw [k4] at t10
      obtain ⟨n0, e0, _⟩ := DataW.trod_bool Try.underlying4 t0
      obtain rfl := (List.cons.inj e0).1
      obtain ⟨z1, e1, _, g1⟩ := DataW.trod_int Try.underlying5 t1
      obtain ⟨n1, rfl, h1⟩ := nat_of_u8 g1
      obtain rfl := (List.cons.inj e1).1
      obtain ⟨z2, e2, _, g2⟩ := DataW.trod_int Try.underlying5 t2
      obtain ⟨n2, rfl, h2⟩ := nat_of_u8 g2
      obtain rfl := (List.cons.inj e2).1
      obtain ⟨z3, e3, _, g3⟩ := DataW.trod_int Try.underlying5 t3
      obtain ⟨n3, rfl, h3⟩ := nat_of_u8 g3
      obtain rfl := (List.cons.inj e3).1
      obtain ⟨z4, e4, _, g4⟩ := DataW.trod_int Try.underlying33 t4
      obtain ⟨n4, rfl, h4⟩ := nat_of_u16 g4
      obtain rfl := (List.cons.inj e4).1
      obtain ⟨z5, e5, _, g5⟩ := DataW.trod_int Try.underlying33 t5
      obtain ⟨n5, rfl, h5⟩ := nat_of_u16 g5
      obtain rfl := (List.cons.inj e5).1
      obtain ⟨z6, e6, _, g6⟩ := DataW.trod_int Try.underlying33 t6
      obtain ⟨n6, rfl, h6⟩ := nat_of_u16 g6
      obtain rfl := (List.cons.inj e6).1
      obtain ⟨z7, e7, _, g7⟩ := DataW.trod_int Try.underlying5 t7
      obtain ⟨n7, rfl, h7⟩ := nat_of_u8 g7
      obtain rfl := (List.cons.inj e7).1
      obtain ⟨z8, e8, _, g8⟩ := DataW.trod_int Try.underlying5 t8
      obtain ⟨n8, rfl, h8⟩ := nat_of_u8 g8
      obtain rfl := (List.cons.inj e8).1
      obtain ⟨z9, e9, _, g9⟩ := DataW.trod_int Try.underlying5 t9
      obtain ⟨n9, rfl, h9⟩ := nat_of_u8 g9
      obtain rfl := (List.cons.inj e9).1
      obtain ⟨n10, e10, _⟩ := DataW.trod_bool Try.underlying4 t10
      obtain rfl := (List.cons.inj e10).1
      exact ⟨⟨n0, n1, n2, n3, n4, n5, n6, n7, n8, n9, n10⟩, rfl, ⟨h1, h2, h3, h4, h5, h6, h7, h8, h9⟩⟩
set_option maxRecDepth 100000 in
theorem open_small {r : Reach} {b0 : Nat} {v : Value} {d : DataW H} {ps : List MemPlace}
    (hval : Value.okWide Try.prog W r b0 35 v) (h0 : DataW.Trod enc Try.prog W base sp hd 35 v d ps) :
    ∃ s : Sm, v = .agg #[.bool s.g, .int .u8 s.o, .int .u8 s.p, .int .u8 s.w, .int .u16 s.q, .int .u16 s.m, .int .u16 s.t, .int .u8 s.r, .int .u8 s.l, .int .u8 s.v, .bool s.s] ∧ OkS s := by
  obtain ⟨cs, rfl, _⟩ := okWide_struct Try.underlying35 hval
  obtain ⟨fuel, hf⟩ := h0
  obtain ⟨s, hs, hok⟩ := small_cells hf
  refine ⟨s, ?_, hok⟩
  have : cs.toList = _ := hs
  rw [show cs = cs.toList.toArray by simp, this]
end
end Go.Proofs.Ytileaoanekphaaa
