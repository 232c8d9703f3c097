/- Layer 11: the statements' list of calls, as it comes in: how it lies. -/
import Derived.Test.YtileaoanekphaaaItOpen
import Derived.Test.YtileaoanekphaaaRvAck
import Derived.Deep.Slices
import Derived.Deep.SlicePairs
import Derived.Deep.MidRow
namespace Go.Proofs.Ytileaoanekphaaa
open Go.RowKit Go.ChangeShapes Go.WideShapes

/-- a call as it comes in -/
structure Ac where
  kd : Nat
  sq : Nat
  sm : Sm
  x : It
  A : Option Addr
  n : Nat
  c : Nat
  raw : Bool
def acC (y : Ac) : List Value := [.int .u8 y.kd, .int .u64 y.sq, .bool (y.sm).g, .int .u8 (y.sm).o, .int .u8 (y.sm).p, .int .u8 (y.sm).w, .int .u16 (y.sm).q, .int .u16 (y.sm).m, .int .u16 (y.sm).t, .int .u8 (y.sm).r, .int .u8 (y.sm).l, .int .u8 (y.sm).v, .bool (y.sm).s, .bool (y.x).g, .int .u8 (y.x).o, .int .u64 (y.x).q, .int .u64 (y.x).t, .string (y.x).r, .slice y.A y.n y.c, .int .u8 (y.x).s, .int .u8 (y.x).p, .int .i64 (y.x).v, .int .u8 (y.x).w, .int .u8 (y.x).ga, .int .u64 (y.x).gf, .int .u64 (y.x).gt, .bool y.raw]
theorem acC_length (y : Ac) : (acC y).length = 27 := rfl
structure OkAc (w : World) (y : Ac) : Prop where
  kd : y.kd < 256
  sq : y.sq < 18446744073709551616
  sm : OkS y.sm
  n : y.n = y.x.l.length
  m : y.n ≤ maxLen
  nil : y.A = none → y.n = 0
  ok : OkI y.x
  rd : RdP w w.heap.size y.A y.x.l
/-- the slice at A holds n calls -/
def RdAc (w : World) (A : Option Addr) (n : Nat) : Prop :=
  0 < n → ∃ b o, A = some ⟨b, o, none⟩ ∧ b < w.heap.size ∧ ∀ i, i < n → ∃ y : Ac, w.rangeAt b (o + i * 27) (acC y) ∧ OkAc w y
theorem spot_no11 {w : World} {a : Addr} {v : Value} (h : w.cell? a = some v) : a.spot = none := by
  unfold World.cell? at h
  split at h
  · split at h
    · cases h
    · rename_i hs
      simpa using hs
  · cases h
section
variable {H : Type} {enc : TypeId × Value → H} {W : World} {base : Nat} {hd : Bool} {sp : Nat → Bool}
set_option maxRecDepth 100000 in
/-- pairs, from the cell of their slice -/
theorem pairs_cell {fuel : Nat} {v : Value} {x : DataW H × List MemPlace} (hf : DataW.trod enc Try.prog W base sp hd fuel 36 [v] = some x) :
    ∃ (A : Option Addr) (n c : Nat) (l : List Pr), v = .slice A n c ∧ n = l.length ∧ n ≤ maxLen ∧ (A = none → n = 0) ∧ RdP W W.heap.size A l ∧ OkP l := by
  rcases Go.Deep.open_slice_pairs Try.underlying36 Try.underlying66 (by kernel_rfl) rfl rfl (by kernel_rfl) (by kernel_rfl) hf with ⟨hcs, hx⟩ | ⟨ad, n, c, m, k, V0, V1, D0, D1, P0, P1, hcs, hb, hl, hm, hmm, hx, hi⟩
  · obtain rfl := (List.cons.inj hcs).1
    exact ⟨none, 0, 0, [], rfl, rfl, Nat.zero_le _, fun _ => rfl, fun h => absurd h (by simp), fun i p h => (by simp at h)⟩
  · obtain rfl := (List.cons.inj hcs).1
    rcases Nat.eq_zero_or_pos n with h0 | h0
    · subst h0
      exact ⟨some ad, 0, c, [], rfl, rfl, Nat.zero_le _, fun _ => rfl, fun h => absurd h (by simp), fun i p h => (by simp at h)⟩
    have hlm : n ≤ m := by rw [hmm]; split <;> omega
    have hs0 : ad.spot = none := spot_no11 (a := ad.add (0 * 2)) (hi 0 (by omega)).1
    obtain ⟨b, o, s⟩ := ad
    obtain rfl : s = none := hs0
    have each : ∀ i, i < n → ∃ p : Pr, V0 i = .string p.1 ∧ V1 i = .string p.2 ∧ p.1.size ≤ maxLen ∧ p.2.size ≤ maxLen := fun i h => by
      obtain ⟨_, _, t0, t1⟩ := hi i (by omega)
      obtain ⟨s0, e0, x0, z0⟩ := DataW.trod_string Try.underlying9 t0
      obtain ⟨s1, e1, x1, z1⟩ := DataW.trod_string Try.underlying9 t1
      exact ⟨(s0, s1), (List.cons.inj e0).1, (List.cons.inj e1).1, z0, z1⟩
    have pick : ∃ f : Nat → Pr, ∀ i, i < n → V0 i = .string (f i).1 ∧ V1 i = .string (f i).2 ∧ (f i).1.size ≤ maxLen ∧ (f i).2.size ≤ maxLen :=
      ⟨fun i => if h : i < n then (each i h).choose else (⟨#[]⟩, ⟨#[]⟩), fun i h => by simp only [dif_pos h]; exact (each i h).choose_spec⟩
    obtain ⟨f, hf'⟩ := pick
    have hget : ∀ (i : Nat) (p : Pr), ((List.range n).map f)[i]? = some p → i < n ∧ p = f i := fun i p hp => by
      rw [List.getElem?_map] at hp
      obtain ⟨j, hj, rfl⟩ := Option.map_eq_some_iff.1 hp
      obtain ⟨h1, h2⟩ := List.getElem?_eq_some_iff.1 hj
      rw [List.length_range] at h1
      rw [List.getElem_range] at h2
      exact ⟨h1, by rw [h2]⟩
    refine ⟨some ⟨b, o, none⟩, n, c, (List.range n).map f, rfl, by simp, Nat.le_trans hl hm, fun h => (by cases h), fun _ => ⟨b, o, rfl, ?_, fun i p hp => ?_⟩, fun i p hp => ?_⟩
    · exact World.block_lt_of_cell? _ _ ((hi 0 (by omega)).1)
    · obtain ⟨hin, rfl⟩ := hget i p hp
      obtain ⟨c0, c1, _, _⟩ := hi i (by omega)
      obtain ⟨v0, v1, _, _⟩ := hf' i hin
      rw [Addr.add_lit] at c0 c1
      rw [v0] at c0; rw [v1] at c1
      exact ⟨c0, by rw [Nat.add_assoc]; exact c1⟩
    · obtain ⟨hin, rfl⟩ := hget i p hp
      exact (hf' i hin).2.2
set_option maxRecDepth 100000 in
/-- thirteen cells that read as an item -/
theorem item_cells {fuel : Nat} {cs : List Value} {x : DataW H × List MemPlace} (hf : DataW.trod enc Try.prog W base sp hd fuel 43 cs = some x) :
    ∃ (y : It) (A : Option Addr) (n c : Nat), cs = [.bool y.g, .int .u8 y.o, .int .u64 y.q, .int .u64 y.t, .string y.r, .slice A n c, .int .u8 y.s, .int .u8 y.p, .int .i64 y.v, .int .u8 y.w, .int .u8 y.ga, .int .u64 y.gf, .int .u64 y.gt] ∧ n = y.l.length ∧ n ≤ maxLen ∧ (A = none → n = 0) ∧ OkI y ∧ RdP W W.heap.size A y.l := by
  have hc : Try.prog.cellsOf 43 = 13 := by kernel_rfl
  have k4 : Try.prog.cellsOf 4 = 1 := by kernel_rfl
  have k26 : Try.prog.cellsOf 39 = 9 := by kernel_rfl
  have k28 : Try.prog.cellsOf 41 = 3 := by kernel_rfl
  obtain ⟨xs, n, _, hx, hl, hlen, hg⟩ := DataW.trod_struct Try.underlying43 hf
  rw [hc] at hl
  match cs, hl with
  | [c0, c1, c2, c3, c4, c5, c6, c7, c8, c9, c10, c11, c12], _ =>
    match xs, hlen with
    | [y0, y1, y2], _ =>
      have t0 : DataW.trod enc Try.prog W base sp hd n 4 (([c0, c1, c2, c3, c4, c5, c6, c7, c8, c9, c10, c11, c12].drop 0).take (Try.prog.cellsOf 4)) = some y0 := hg 0 _ rfl
      rw [k4] at t0
      have t1 : DataW.trod enc Try.prog W base sp hd n 39 (([c0, c1, c2, c3, c4, c5, c6, c7, c8, c9, c10, c11, c12].drop 1).take (Try.prog.cellsOf 39)) = some y1 := hg 1 _ rfl
      rw [k26] at t1
      have t2 : DataW.trod enc Try.prog W base sp hd n 41 (([c0, c1, c2, c3, c4, c5, c6, c7, c8, c9, c10, c11, c12].drop 10).take (Try.prog.cellsOf 41)) = some y2 := hg 2 _ rfl
      rw [k28] at t2
      obtain ⟨b, e0, _⟩ := DataW.trod_bool Try.underlying4 t0
      obtain ⟨o, q, t, rr, L, s, p, v, w, m, z, e1, tL, b1, b2, b3, b4, b5, b6, b7, b7', b8, -⟩ := event_cells t1
      obtain ⟨ga, gf, gt, e2, b9, b10, b11⟩ := gap_cells t2
      obtain rfl := (List.cons.inj e0).1
      have e1' : [c1, c2, c3, c4, c5, c6, c7, c8, c9] = _ := e1
      have e2' : [c10, c11, c12] = _ := e2
      simp only [List.cons.injEq, and_true] at e1' e2'
      obtain ⟨rfl, rfl, rfl, rfl, rfl, rfl, rfl, rfl, rfl⟩ := e1'
      obtain ⟨rfl, rfl, rfl⟩ := e2'
      obtain ⟨A, k, c, l, rfl, hk, hkm, hA, hr, hok⟩ := pairs_cell tL
      exact ⟨⟨b, o, q, t, rr, l, s, p, v, w, ga, gf, gt⟩, A, k, c, rfl, hk, hkm, hA, ⟨b1, b2, b3, b4, hok, b5, b6, b7, b7', b8, b9, b10, b11⟩, hr⟩
set_option maxRecDepth 100000 in
/-- twenty-seven cells that read as a call -/
theorem ac_cells {fuel : Nat} {cs : List Value} {x : DataW H × List MemPlace} (hf : DataW.trod enc Try.prog W base sp hd fuel 45 cs = some x) :
    ∃ y : Ac, cs = acC y ∧ OkAc W y := by
  have hc : Try.prog.cellsOf 45 = 27 := by kernel_rfl
  have k5 : Try.prog.cellsOf 5 = 1 := by kernel_rfl
  have k29 : Try.prog.cellsOf 29 = 1 := by kernel_rfl
  have k35 : Try.prog.cellsOf 35 = 11 := by kernel_rfl
  have k43 : Try.prog.cellsOf 43 = 13 := by kernel_rfl
  have k4 : Try.prog.cellsOf 4 = 1 := by kernel_rfl
  obtain ⟨xs, n, _, hx, hl, hlen, hg⟩ := DataW.trod_struct Try.underlying45 hf
  rw [hc] at hl
  match cs, hl with
  | [c0, c1, c2, c3, c4, c5, c6, c7, c8, c9, c10, c11, c12, c13, c14, c15, c16, c17, c18, c19, c20, c21, c22, c23, c24, c25, c26], _ =>
    match xs, hlen with
    | [y0, y1, y2, y3, y4], _ =>
      have t0 : DataW.trod enc Try.prog W base sp hd n 5 (([c0, c1, c2, c3, c4, c5, c6, c7, c8, c9, c10, c11, c12, c13, c14, c15, c16, c17, c18, c19, c20, c21, c22, c23, c24, c25, c26].drop 0).take (Try.prog.cellsOf 5)) = some y0 := hg 0 _ rfl
      rw [k5] at t0
      have t1 : DataW.trod enc Try.prog W base sp hd n 29 (([c0, c1, c2, c3, c4, c5, c6, c7, c8, c9, c10, c11, c12, c13, c14, c15, c16, c17, c18, c19, c20, c21, c22, c23, c24, c25, c26].drop 1).take (Try.prog.cellsOf 29)) = some y1 := hg 1 _ rfl
      rw [k29] at t1
      have t2 : DataW.trod enc Try.prog W base sp hd n 35 (([c0, c1, c2, c3, c4, c5, c6, c7, c8, c9, c10, c11, c12, c13, c14, c15, c16, c17, c18, c19, c20, c21, c22, c23, c24, c25, c26].drop 2).take (Try.prog.cellsOf 35)) = some y2 := hg 2 _ rfl
      rw [k35] at t2
      have t3 : DataW.trod enc Try.prog W base sp hd n 43 (([c0, c1, c2, c3, c4, c5, c6, c7, c8, c9, c10, c11, c12, c13, c14, c15, c16, c17, c18, c19, c20, c21, c22, c23, c24, c25, c26].drop 13).take (Try.prog.cellsOf 43)) = some y3 := hg 3 _ rfl
      rw [k43] at t3
      have t4 : DataW.trod enc Try.prog W base sp hd n 4 (([c0, c1, c2, c3, c4, c5, c6, c7, c8, c9, c10, c11, c12, c13, c14, c15, c16, c17, c18, c19, c20, c21, c22, c23, c24, c25, c26].drop 26).take (Try.prog.cellsOf 4)) = some y4 := hg 4 _ rfl
      rw [k4] at t4
      obtain ⟨z0, e0, _, g0⟩ := DataW.trod_int Try.underlying5 t0
      obtain ⟨z1, e1, _, g1⟩ := DataW.trod_int Try.underlying29 t1
      obtain ⟨sm, e2, hsm⟩ := small_cells t2
      obtain ⟨y, A, k, c, e3, hk, hkm, hA, hok, hr⟩ := item_cells t3
      obtain ⟨b4, e4, _⟩ := DataW.trod_bool Try.underlying4 t4
      obtain ⟨n0, rfl, h0⟩ := nat_of_u8 g0
      obtain ⟨n1, rfl, h1⟩ := nat_of_u64 g1
      obtain rfl := (List.cons.inj e0).1
      obtain rfl := (List.cons.inj e1).1
      obtain rfl := (List.cons.inj e4).1
      have e2' : [c2, c3, c4, c5, c6, c7, c8, c9, c10, c11, c12] = _ := e2
      have e3' : [c13, c14, c15, c16, c17, c18, c19, c20, c21, c22, c23, c24, c25] = _ := e3
      simp only [List.cons.injEq, and_true] at e2' e3'
      obtain ⟨rfl, rfl, rfl, rfl, rfl, rfl, rfl, rfl, rfl, rfl, rfl⟩ := e2'
      obtain ⟨rfl, rfl, rfl, rfl, rfl, rfl, rfl, rfl, rfl, rfl, rfl, rfl, rfl⟩ := e3'
      exact ⟨⟨n0, n1, sm, y, A, k, c, b4⟩, rfl, ⟨h0, h1, hsm, hk, hkm, hA, hok, hr⟩⟩
set_option maxRecDepth 100000 in
theorem open_acts11 {r : Reach} {b0 : Nat} {v : Value} {d : DataW H} {ps : List MemPlace}
    (hval : Value.okWide Try.prog W r b0 22 v) (h0 : DataW.Trod enc Try.prog W base sp hd 22 v d ps) :
    ∃ (A : Option Addr) (n c : Nat), v = .slice A n c ∧ n ≤ maxLen ∧ RdAc W A n := by
  obtain ⟨a, n, c, rfl⟩ := okWide_slice Try.underlying22 hval
  have hsp : ∀ ad, a = some ad → ad.spot = none := by
    rintro ad rfl
    simp only [Value.okWide, Try.underlying22, Cell.okWide, Cell.ok] at hval
    exact hval.2.2.2.1
  have hc3 : Try.prog.cellsOf 45 = 27 := by kernel_rfl
  obtain ⟨fuel, hf⟩ := h0
  rcases Go.Deep.open_slice Try.underlying22 hf with ⟨hcs, _⟩ | ⟨ad, len, cap, m, k, D, Pl, hcs, hb, hl, hm, hmm, _, hx⟩
  · have e : a = none ∧ n = 0 ∧ c = 0 := by simpa [Value.cells] using hcs
    obtain ⟨rfl, rfl, rfl⟩ := e
    exact ⟨none, 0, 0, rfl, Nat.zero_le _, fun h => absurd h (by simp)⟩
  · have e : a = some ad ∧ n = len ∧ c = cap := by simpa [Value.cells] using hcs
    obtain ⟨rfl, rfl, rfl⟩ := e
    have hspot := hsp ad rfl
    obtain ⟨b, o, s⟩ := ad
    obtain rfl : s = none := hspot
    have hlm : n ≤ m := by rw [hmm]; split <;> omega
    have each : ∀ i, i < n → ∃ y : Ac, W.rangeAt b (o + i * 27) (acC y) ∧ OkAc W y := fun i hi => by
      obtain ⟨cs', h1, h2⟩ := hx i (by omega)
      rw [hc3] at h1
      obtain ⟨_, hlen, hcell⟩ := World.cells?_some h1
      obtain ⟨y, rfl, hok⟩ := ac_cells h2
      refine ⟨y, fun j v hv => ?_, hok⟩
      have hj : j < 27 := by rw [← hlen]; exact (List.getElem?_eq_some_iff.1 hv).1
      have g0 := hcell j hj
      rw [Addr.add_lit, Addr.add_mid] at g0
      exact g0.trans hv
    refine ⟨some ⟨b, o, none⟩, n, c, rfl, Nat.le_trans hl hm, fun h0 => ⟨b, o, rfl, ?_, each⟩⟩
    obtain ⟨x, h1, _⟩ := each 0 h0
    exact World.block_lt_of_cell? _ _ (h1 0 _ rfl)
end
theorem OkAc.below {w w' : World} {y : Ac} (h : OkAc w y) (hb : Below w.heap.size w w') : OkAc w' y :=
  ⟨h.kd, h.sq, h.sm, h.n, h.m, h.nil, h.ok, rdP_keep8 h.rd hb⟩
/-- a call of the list, in a later world -/
theorem RdAc.at_ {w w' : World} {A : Option Addr} {n i : Nat} (h : RdAc w A n) (hb : Below w.heap.size w w') (hi : i < n) : ∃ (b o : Nat) (y : Ac), A = some ⟨b, o, none⟩ ∧ w'.rangeAt b (o + i * 27) (acC y) ∧ OkAc w y := by
  obtain ⟨b, o, rfl, hbl, hy⟩ := h (by omega)
  obtain ⟨y, h1, h2⟩ := hy i hi
  exact ⟨b, o, y, rfl, fun j u hj => (hb.cell (p := ⟨b, o + i * 27 + j, none⟩) hbl).trans (h1 j u hj), h2⟩
end Go.Proofs.Ytileaoanekphaaa
