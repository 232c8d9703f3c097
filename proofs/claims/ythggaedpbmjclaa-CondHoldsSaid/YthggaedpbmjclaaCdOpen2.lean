/- Layer 13: what comes in: points, a condition, a small one. -/
import Derived.Test.YthggaedpbmjclaaCdOpen
import Derived.Test.YthggaedpbmjclaaCdHI
import Derived.Deep.SlicePairs
import Derived.Deep.Slices
namespace Go.Proofs.Ythggaedpbmjclaa
open Go.RowKit Go.ChangeShapes Go.WideShapes
theorem bounds_i16 {z : Int} (h : (Lit.int .i16 z).wf = true) : -32768 ≤ z ∧ z < 32768 := by
  have hmin : IntKind.i16.min = -32768 := rfl
  have hmax : IntKind.i16.max = 32767 := rfl
  simp only [Lit.wf, Bool.and_eq_true, decide_eq_true_eq, hmin, hmax] at h
  omega
section
variable {H : Type} {enc : TypeId × Value → H} {W : World} {base : Nat} {hd : Bool}
set_option maxRecDepth 100000 in
/-- from the cells of a slice of points -/
theorem pis_cells {fuel : Nat} {a : Option Addr} {n c : Nat} {x : DataW H × List MemPlace} {sp : Nat → Bool} (hsp : ∀ ad, a = some ad → ad.spot = none)
    (hf : DataW.trod enc Try.prog W base sp hd fuel 22 [.slice a n c] = some x) :
    ∃ (l : List Pi), n = l.length ∧ n ≤ maxLen ∧ n * 4 ≤ 4 * maxLen ∧ RdPi W a l ∧ ∀ x ∈ l, OkPi x := by
  rcases Go.Deep.open_slice_pairs Try.underlying22 Try.underlying38 (by kernel_rfl) rfl rfl (by kernel_rfl) (by kernel_rfl) hf with ⟨hcs, hx⟩ | ⟨ad, len, cap, m, k, V0, V1, D0, D1, P0, P1, hcs, hb, hl, hm, hmm, hx, hi⟩
  · have e : a = none ∧ n = 0 ∧ c = 0 := by simpa [Value.cells] using hcs
    obtain ⟨rfl, rfl, rfl⟩ := e
    exact ⟨[], rfl, Nat.zero_le _, by omega, fun h => absurd h (by simp), fun t h => (by cases h)⟩
  · have e : a = some ad ∧ n = len ∧ c = cap := by simpa [Value.cells] using hcs
    obtain ⟨rfl, rfl, rfl⟩ := e
    have hspot := hsp ad rfl
    obtain ⟨b, o, s⟩ := ad
    obtain rfl : s = none := hspot
    have hlm : n ≤ m := by rw [hmm]; split <;> omega
    have each : ∀ i, i < n → ∃ p : Pi, V0 i = .int .u8 p.d ∧ V1 i = .int .i64 p.z ∧ OkPi p := fun i h => by
      obtain ⟨_, _, t0, t1⟩ := hi i (by omega)
      obtain ⟨s0, e0, x0, z0⟩ := DataW.trod_int Try.underlying5 t0
      obtain ⟨s1, e1, x1, z1⟩ := DataW.trod_int Try.underlying2 t1
      obtain ⟨y0, rfl, h0⟩ := nat_of_u8 z0
      obtain ⟨h1, h2⟩ := bounds_i64 z1
      exact ⟨⟨y0, s1⟩, (List.cons.inj e0).1, (List.cons.inj e1).1, ⟨h0, h1, h2⟩⟩
    have pick : ∃ f : Nat → Pi, ∀ i, i < n → V0 i = .int .u8 (f i).d ∧ V1 i = .int .i64 (f i).z ∧ OkPi (f i) :=
      ⟨fun i => if h : i < n then (each i h).choose else ⟨0, 0⟩, fun i h => by simp only [dif_pos h]; exact (each i h).choose_spec⟩
    obtain ⟨f, hf'⟩ := pick
    have hget : ∀ (i : Nat) (p : Pi), ((List.range n).map f)[i]? = some p → i < n ∧ p = f i := fun i p hp => by
      rw [List.getElem?_map] at hp
      obtain ⟨j, hj, rfl⟩ := Option.map_eq_some_iff.1 hp
      obtain ⟨h1, h2⟩ := List.getElem?_eq_some_iff.1 hj
      rw [List.length_range] at h1
      rw [List.getElem_range] at h2
      exact ⟨h1, by rw [h2]⟩
    refine ⟨(List.range n).map f, by simp, Nat.le_trans hl hm, by omega, fun h0 => ⟨b, o, rfl, ?_, fun i p hp => ?_⟩, fun t ht => ?_⟩
    · have h0' : 0 < n := by simpa using h0
      exact World.block_lt_of_cell? _ _ ((hi 0 (by omega)).1)
    · obtain ⟨hin, rfl⟩ := hget i p hp
      obtain ⟨c0, c1, _, _⟩ := hi i (by omega)
      obtain ⟨v0, v1, _⟩ := hf' i hin
      rw [Addr.add_lit] at c0 c1
      rw [v0] at c0; rw [v1] at c1
      intro j u hj
      match j, hj with
      | 0, hj => exact c0.trans hj
      | 1, hj => exact (by rw [show o + i * 2 + 1 = o + (i * 2 + 1) from by omega]; exact c1.trans hj)
      | j + 2, hj => simp at hj
    · obtain ⟨i, hi'⟩ := List.mem_iff_getElem?.1 ht
      obtain ⟨hin, rfl⟩ := hget i t hi'
      exact (hf' i hin).2.2
set_option maxRecDepth 100000 in
theorem open_pis {r : Reach} {b0 : Nat} {v : Value} {d : DataW H} {ps : List MemPlace} {sp : Nat → Bool}
    (hval : Value.okWide Try.prog W r b0 22 v) (h0 : DataW.Trod enc Try.prog W base sp hd 22 v d ps) :
    ∃ (A : Option Addr) (n c : Nat) (l : List Pi), v = .slice A n c ∧ n = l.length ∧ n ≤ maxLen ∧ RdPi W A l ∧ ∀ x ∈ l, OkPi x := by
  obtain ⟨a, n, c, rfl⟩ := okWide_slice Try.underlying22 hval
  have hsp : ∀ ad, a = some ad → ad.spot = none := by
    rintro ad rfl
    simp only [Value.okWide, Try.underlying22, Cell.okWide, Cell.ok] at hval
    exact hval.2.2.2.1
  obtain ⟨fuel, hf⟩ := h0
  obtain ⟨l, h1, h2, _, h3, h4⟩ := pis_cells hsp hf
  exact ⟨a, n, c, l, rfl, h1, h2, h3, h4⟩
set_option maxRecDepth 100000 in
theorem open_cond {r : Reach} {b0 : Nat} {v : Value} {d : DataW H} {ps : List MemPlace} {sp : Nat → Bool}
    (hval : Value.okWide Try.prog W r b0 26 v) (h0 : DataW.Trod enc Try.prog W base sp hd 26 v d ps) :
    ∃ (k : Nat) (lim : Int) (tk : Nat), v = .agg #[.int .u8 k, .int .i64 lim, .int .u64 tk] ∧ k < 256 ∧ -9223372036854775808 ≤ lim ∧ lim < 9223372036854775808 ∧ tk < 18446744073709551616 := by
  obtain ⟨cs, rfl, _⟩ := okWide_struct Try.underlying26 hval
  obtain ⟨fuel, hf⟩ := h0
  have hc : Try.prog.cellsOf 26 = 3 := by kernel_rfl
  have k0 : Try.prog.cellsOf 23 = 1 := by kernel_rfl
  have k1 : Try.prog.cellsOf 2 = 1 := by kernel_rfl
  have k2 : Try.prog.cellsOf 24 = 1 := by kernel_rfl
  obtain ⟨xs, n, _, hx, hl, hlen, hg⟩ := DataW.trod_struct Try.underlying26 hf
  rw [hc] at hl
  have hl : cs.toList.length = 3 := hl
  obtain ⟨c0, c1, c2, hcs⟩ : ∃ c0 c1 c2, cs = #[c0, c1, c2] := by
    obtain ⟨l⟩ := cs
    match l, hl with
    | [c0, c1, c2], _ => exact ⟨c0, c1, c2, rfl⟩
  subst hcs
  match xs, hlen with
  | [y0, y1, y2], _ =>
    have t0 : DataW.trod enc Try.prog W base sp hd n 23 (([c0, c1, c2].drop 0).take (Try.prog.cellsOf 23)) = some y0 := hg 0 _ rfl
    rw [k0] at t0
    have t1 : DataW.trod enc Try.prog W base sp hd n 2 (([c0, c1, c2].drop 1).take (Try.prog.cellsOf 2)) = some y1 := hg 1 _ rfl
    rw [k1] at t1
    have t2 : DataW.trod enc Try.prog W base sp hd n 24 (([c0, c1, c2].drop 2).take (Try.prog.cellsOf 24)) = some y2 := hg 2 _ rfl
    rw [k2] at t2
    obtain ⟨z0, e0, _, g0⟩ := DataW.trod_int Try.underlying23 t0
    obtain ⟨z1, e1, _, g1⟩ := DataW.trod_int Try.underlying2 t1
    obtain ⟨z2, e2, _, g2⟩ := DataW.trod_int Try.underlying24 t2
    obtain ⟨n0, rfl, h0⟩ := nat_of_u8 g0
    obtain rfl := (List.cons.inj e0).1
    obtain ⟨b1, b2⟩ := bounds_i64 g1
    obtain rfl := (List.cons.inj e1).1
    obtain ⟨n2, rfl, h2⟩ := nat_of_u64 g2
    obtain rfl := (List.cons.inj e2).1
    exact ⟨n0, z1, n2, rfl, h0, b1, b2, h2⟩
set_option maxRecDepth 100000 in
theorem open_small13 {r : Reach} {b0 : Nat} {v : Value} {d : DataW H} {ps : List MemPlace} {sp : Nat → Bool}
    (hval : Value.okWide Try.prog W r b0 29 v) (h0 : DataW.Trod enc Try.prog W base sp hd 29 v d ps) :
    ∃ (k : Nat) (lim : Int) (tk : Nat), v = .agg #[.int .u8 k, .int .i16 lim, .int .u8 tk] ∧ k < 256 ∧ -32768 ≤ lim ∧ lim < 32768 ∧ tk < 256 := by
  obtain ⟨cs, rfl, _⟩ := okWide_struct Try.underlying29 hval
  obtain ⟨fuel, hf⟩ := h0
  have hc : Try.prog.cellsOf 29 = 3 := by kernel_rfl
  have k0 : Try.prog.cellsOf 5 = 1 := by kernel_rfl
  have k1 : Try.prog.cellsOf 27 = 1 := by kernel_rfl
  have k2 : Try.prog.cellsOf 5 = 1 := by kernel_rfl
  obtain ⟨xs, n, _, hx, hl, hlen, hg⟩ := DataW.trod_struct Try.underlying29 hf
  rw [hc] at hl
  have hl : cs.toList.length = 3 := hl
  obtain ⟨c0, c1, c2, hcs⟩ : ∃ c0 c1 c2, cs = #[c0, c1, c2] := by
    obtain ⟨l⟩ := cs
    match l, hl with
    | [c0, c1, c2], _ => exact ⟨c0, c1, c2, rfl⟩
  subst hcs
  match xs, hlen with
  | [y0, y1, y2], _ =>
    have t0 : DataW.trod enc Try.prog W base sp hd n 5 (([c0, c1, c2].drop 0).take (Try.prog.cellsOf 5)) = some y0 := hg 0 _ rfl
    rw [k0] at t0
    have t1 : DataW.trod enc Try.prog W base sp hd n 27 (([c0, c1, c2].drop 1).take (Try.prog.cellsOf 27)) = some y1 := hg 1 _ rfl
    rw [k1] at t1
    have t2 : DataW.trod enc Try.prog W base sp hd n 5 (([c0, c1, c2].drop 2).take (Try.prog.cellsOf 5)) = some y2 := hg 2 _ rfl
    rw [k2] at t2
    obtain ⟨z0, e0, _, g0⟩ := DataW.trod_int Try.underlying5 t0
    obtain ⟨z1, e1, _, g1⟩ := DataW.trod_int Try.underlying27 t1
    obtain ⟨z2, e2, _, g2⟩ := DataW.trod_int Try.underlying5 t2
    obtain ⟨n0, rfl, h0⟩ := nat_of_u8 g0
    obtain rfl := (List.cons.inj e0).1
    obtain ⟨b1, b2⟩ := bounds_i16 g1
    obtain rfl := (List.cons.inj e1).1
    obtain ⟨n2, rfl, h2⟩ := nat_of_u8 g2
    obtain rfl := (List.cons.inj e2).1
    exact ⟨n0, z1, n2, rfl, h0, b1, b2, h2⟩
end
end Go.Proofs.Ythggaedpbmjclaa
