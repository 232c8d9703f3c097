/- Layer 3: things that come in: one by value, and a list of them: how they lie. -/
import Derived.Test.YtgadcongolldjaaOpen
import Derived.Deep.Slices
import Derived.Deep.Strs
namespace Go.Proofs.Ytgadcongolldjaa
open Go.RowKit Go.ChangeShapes Go.WideShapes

/-- a thing: its kind, its number, its text -/
abbrev Th := Nat × Nat × ByteArray
def OkTh (x : Th) : Prop := x.1 < 256 ∧ x.2.1 < 18446744073709551616 ∧ x.2.2.size ≤ maxLen
/-- The slice at A holds these things; it lies below block B. -/
def RdT (w : World) (B : Nat) (A : Option Addr) (l : List Th) : Prop :=
  0 < l.length → ∃ b o, A = some ⟨b, o, none⟩ ∧ b < B ∧ ∀ (i : Nat) (x : Th), l[i]? = some x → w.cell? ⟨b, o + i * 3, none⟩ = some (.int .u8 x.1) ∧ w.cell? ⟨b, o + i * 3 + 1, none⟩ = some (.int .u64 x.2.1) ∧ w.cell? ⟨b, o + i * 3 + 2, none⟩ = some (.string x.2.2)

theorem nat_of_u64 {z : Int} (h : (Lit.int .u64 z).wf = true) : ∃ x : Nat, z = x ∧ x < 18446744073709551616 := by
  have hmin : IntKind.u64.min = 0 := rfl
  have hmax : IntKind.u64.max = 18446744073709551615 := rfl
  simp only [Lit.wf, Bool.and_eq_true, decide_eq_true_eq, hmin, hmax] at h
  exact ⟨z.toNat, by omega, by omega⟩

theorem bounds_i64 {z : Int} (h : (Lit.int .i64 z).wf = true) : -9223372036854775808 ≤ z ∧ z < 9223372036854775808 := by
  have hmin : IntKind.i64.min = -9223372036854775808 := rfl
  have hmax : IntKind.i64.max = 9223372036854775807 := rfl
  simp only [Lit.wf, Bool.and_eq_true, decide_eq_true_eq, hmin, hmax] at h
  exact ⟨by omega, by omega⟩

set_option maxRecDepth 100000 in
/-- three cells that read as a thing -/
theorem thing_cells {H : Type} {enc : TypeId × Value → H} {W : World} {base : Nat} {sp : Nat → Bool} {hd : Bool} {fuel : Nat} {cs : List Value} {x : DataW H × List MemPlace}
    (hf : DataW.trod enc Try.prog W base sp hd fuel 29 cs = some x) :
    ∃ y : Th, cs = [.int .u8 y.1, .int .u64 y.2.1, .string y.2.2] ∧ OkTh y := by
  have hc : Try.prog.cellsOf 29 = 3 := by kernel_rfl
  obtain ⟨y0, y1, y2, n, _, hl, t0, t1, t2⟩ := Go.Deep.trod_struct3 Try.underlying29 hf
  rw [hc] at hl
  obtain ⟨c0, c1, c2, rfl⟩ : ∃ c0 c1 c2, cs = [c0, c1, c2] := by
    match cs, hl with
    | [a, b, c], _ => exact ⟨a, b, c, rfl⟩
  obtain ⟨z0, e0, _, g0⟩ := DataW.trod_int Try.underlying5 t0
  obtain ⟨z1, e1, _, g1⟩ := DataW.trod_int Try.underlying27 t1
  obtain ⟨s2, e2, _, g2⟩ := DataW.trod_string Try.underlying9 t2
  obtain ⟨x0, rfl, h0⟩ := nat_of_u8 g0
  obtain ⟨x1, rfl, h1⟩ := nat_of_u64 g1
  obtain rfl := (List.cons.inj e0).1
  obtain rfl := (List.cons.inj e1).1
  obtain rfl := (List.cons.inj e2).1
  exact ⟨(x0, x1, s2), rfl, h0, h1, g2⟩

set_option maxRecDepth 100000 in
theorem open_thing {H : Type} {enc : TypeId × Value → H} {W : World} {base : Nat} {sp : Nat → Bool} {hd : Bool} {r : Reach} {b0 : Nat} {v : Value} {d : DataW H} {ps : List MemPlace}
    (hval : Value.okWide Try.prog W r b0 29 v) (h0 : DataW.Trod enc Try.prog W base sp hd 29 v d ps) :
    ∃ x : Th, v = .agg #[.int .u8 x.1, .int .u64 x.2.1, .string x.2.2] ∧ OkTh x := by
  obtain ⟨cs, rfl, _⟩ := okWide_struct Try.underlying29 hval
  obtain ⟨fuel, hf⟩ := h0
  obtain ⟨y, hy, hok⟩ := thing_cells hf
  refine ⟨y, ?_, hok⟩
  have : cs.toList = [.int .u8 y.1, .int .u64 y.2.1, .string y.2.2] := hy
  rw [show cs = cs.toList.toArray by simp, this]

set_option maxRecDepth 100000 in
theorem open_things {H : Type} {enc : TypeId × Value → H} {W : World} {base : Nat} {sp : Nat → Bool} {hd : Bool} {r : Reach} {b0 : Nat} {v : Value} {d : DataW H} {ps : List MemPlace}
    (hval : Value.okWide Try.prog W r b0 22 v) (h0 : DataW.Trod enc Try.prog W base sp hd 22 v d ps) :
    ∃ (A : Option Addr) (n c : Nat) (l : List Th), v = .slice A n c ∧ n = l.length ∧ n ≤ maxLen ∧ (A = none → n = 0) ∧ RdT W W.heap.size A l ∧ (∀ x ∈ l, OkTh x) := by
  obtain ⟨a, n, c, rfl⟩ := okWide_slice Try.underlying22 hval
  have hsp : ∀ ad, a = some ad → ad.spot = none := by
    rintro ad rfl
    simp only [Value.okWide, Try.underlying22, Cell.okWide, Cell.ok] at hval
    exact hval.2.2.2.1
  have hc3 : Try.prog.cellsOf 29 = 3 := by kernel_rfl
  obtain ⟨fuel, hf⟩ := h0
  rcases Go.Deep.open_slice Try.underlying22 hf with ⟨hcs, _⟩ | ⟨ad, len, cap, m, k, D, Pl, hcs, hb, hl, hm, hmm, _, hx⟩
  · have e : a = none ∧ n = 0 ∧ c = 0 := by simpa [Value.cells] using hcs
    obtain ⟨rfl, rfl, rfl⟩ := e
    exact ⟨none, 0, 0, [], rfl, rfl, Nat.zero_le _, fun _ => rfl, fun h => absurd h (by simp), fun x h => (by cases h)⟩
  · have e : a = some ad ∧ n = len ∧ c = cap := by simpa [Value.cells] using hcs
    obtain ⟨rfl, rfl, rfl⟩ := e
    have hspot := hsp ad rfl
    obtain ⟨b, o, s⟩ := ad
    obtain rfl : s = none := hspot
    have hlm : n ≤ m := by rw [hmm]; split <;> omega
    have each : ∀ i, i < n → ∃ x : Th, (W.cell? ⟨b, o + i * 3, none⟩ = some (.int .u8 x.1) ∧ W.cell? ⟨b, o + i * 3 + 1, none⟩ = some (.int .u64 x.2.1) ∧ W.cell? ⟨b, o + i * 3 + 2, none⟩ = some (.string x.2.2)) ∧ OkTh x := fun i hi => by
      obtain ⟨cs', h1, h2⟩ := hx i (by omega)
      rw [hc3] at h1
      obtain ⟨_, hlen, hcell⟩ := World.cells?_some h1
      obtain ⟨y, rfl, hok⟩ := thing_cells h2
      have g0 := hcell 0 (by omega)
      have g1 := hcell 1 (by omega)
      have g2 := hcell 2 (by omega)
      rw [Addr.add_lit] at g0 g1 g2
      exact ⟨y, ⟨g0, g1, g2⟩, hok⟩
    have pick : ∃ f : Nat → Th, ∀ i, i < n → (W.cell? ⟨b, o + i * 3, none⟩ = some (.int .u8 (f i).1) ∧ W.cell? ⟨b, o + i * 3 + 1, none⟩ = some (.int .u64 (f i).2.1) ∧ W.cell? ⟨b, o + i * 3 + 2, none⟩ = some (.string (f i).2.2)) ∧ OkTh (f i) :=
      ⟨fun i => if h : i < n then (each i h).choose else (0, 0, ⟨#[]⟩), fun i h => by simp only [dif_pos h]; exact (each i h).choose_spec⟩
    obtain ⟨f, hf'⟩ := pick
    have hget : ∀ (i : Nat) (p : Th), ((List.range n).map f)[i]? = some p → i < n ∧ p = f i := fun i p hp => by
      rw [List.getElem?_map] at hp
      obtain ⟨j, hj, rfl⟩ := Option.map_eq_some_iff.1 hp
      obtain ⟨h1, h2⟩ := List.getElem?_eq_some_iff.1 hj
      rw [List.length_range] at h1
      rw [List.getElem_range] at h2
      exact ⟨h1, by rw [h2]⟩
    refine ⟨some ⟨b, o, none⟩, n, c, (List.range n).map f, rfl, by simp, Nat.le_trans hl hm, fun h => (by cases h), fun h0 => ⟨b, o, rfl, ?_, fun i p hp => ?_⟩, fun x hx => ?_⟩
    · have h0' : 0 < n := by simpa using h0
      exact World.block_lt_of_cell? _ _ ((hf' 0 h0').1.1)
    · obtain ⟨hin, rfl⟩ := hget i p hp
      exact (hf' i hin).1
    · simp only [List.mem_map, List.mem_range] at hx
      obtain ⟨i, hi, rfl⟩ := hx
      exact (hf' i hi).2
end Go.Proofs.Ytgadcongolldjaa
