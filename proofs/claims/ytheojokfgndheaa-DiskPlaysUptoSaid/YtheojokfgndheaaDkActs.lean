/- Layer 6: the statements' list of calls, as it comes in: how it lies; a call's name. -/
import Derived.Test.YtheojokfgndheaaDkArgs
import Derived.Deep.Slices
import Derived.Deep.MidRow
import Derived.Deep.CutRange
namespace Go.Proofs.Ytheojokfgndheaa
open Go.RowKit Go.ChangeShapes Go.WideShapes

/-- a call as it comes in -/
structure Act where
  kd : Nat
  a : Nat
  b : Nat
  bA : Option Addr
  bn : Nat
  bc : Nat
  bl : List Nat
  n : Int
  nm : ByteArray
  raw : Bool
  tA : Option Addr
  tn : Nat
  tc : Nat
  tl : List (Nat × Nat)
def actC (x : Act) : List Value := [.int .u8 x.kd, .int .u8 x.a, .int .u8 x.b, .slice x.bA x.bn x.bc, .int .i64 x.n, .string x.nm, .bool x.raw, .slice x.tA x.tn x.tc]
structure OkAct (w : World) (x : Act) : Prop where
  kd : x.kd < 256
  a : x.a < 256
  b : x.b < 256
  bn : x.bn = x.bl.length
  bm : x.bn ≤ maxLen
  bnil : x.bA = none → x.bn = 0
  br : RdB w w.heap.size x.bA x.bl
  bok : OkB x.bl
  nlo : -9223372036854775808 ≤ x.n
  nhi : x.n < 9223372036854775808
  nm : x.nm.size ≤ maxLen
  tn : x.tn = x.tl.length
  tm : x.tn ≤ maxLen
  tr : RdT w w.heap.size x.tA x.tl
  tok : OkT x.tl
/-- the slice at A holds n calls -/
def RdA (w : World) (A : Option Addr) (n : Nat) : Prop :=
  0 < n → ∃ b o, A = some ⟨b, o, none⟩ ∧ b < w.heap.size ∧ ∀ i, i < n → ∃ x : Act, (∀ j v, (actC x)[j]? = some v → w.cell? ⟨b, o + i * 8 + j, none⟩ = some v) ∧ OkAct w x

section
variable {H : Type} {enc : TypeId × Value → H} {W : World} {base : Nat} {hd : Bool}
/-- bytes, from the cell of their slice -/
theorem bytes_cell {fuel : Nat} {v : Value} {x : DataW H × List MemPlace} (hf : DataW.trod enc Try.prog W base (fun _ => true) hd fuel 30 [v] = some x) :
    ∃ (a : Option Addr) (n cp : Nat) (l : List Nat), v = .slice a n cp ∧ n = l.length ∧ n ≤ maxLen ∧ (a = none → n = 0) ∧ RdB W W.heap.size a l ∧ OkB l := by
  rcases open_ints Try.underlying30 Try.underlying5 (by kernel_rfl) hf with ⟨hcs, hx⟩ | ⟨ad, n, c, zs, hcs, hb, hl, hm, hlen, hx, hc, hz⟩
  · obtain rfl := (List.cons.inj hcs).1
    exact ⟨none, 0, 0, [], rfl, rfl, Nat.zero_le _, fun _ => rfl, fun h => absurd h (by simp), fun x h => (by cases h)⟩
  · obtain rfl := (List.cons.inj hcs).1
    obtain ⟨xs, rfl, hok⟩ := map_nat zs hz
    rw [List.length_map] at hlen hc
    have hls : n ≤ xs.length := by rw [hlen]; split <;> omega
    refine ⟨some ad, n, c, xs.take n, rfl, by simp; omega, Nat.le_trans hl hm, fun h => (by cases h), fun h => ?_, hok.take n⟩
    have h0 : 0 < n := by have := h; simp at this; omega
    have hs0 : ad.spot = none := spot_no (a := ad.add 0) (hc 0 (by omega))
    obtain ⟨b, o, s⟩ := ad
    obtain rfl : s = none := hs0
    refine ⟨b, o, rfl, World.block_lt_of_cell? _ _ (hc 0 (by omega)), fun i x hi => ?_⟩
    obtain ⟨h1, h2⟩ := List.getElem?_eq_some_iff.1 hi
    rw [List.length_take] at h1
    have h3 := hc i (by omega)
    rw [Addr.add_lit] at h3
    rw [h3, ← h2, List.getElem_take, List.getD_eq_getElem?_getD, List.getElem?_eq_getElem (by simp; omega)]
    simp
set_option maxRecDepth 100000 in
/-- tears, from the cell of their slice -/
theorem tears_cell {fuel : Nat} {v : Value} {x : DataW H × List MemPlace} {sp : Nat → Bool} (hf : DataW.trod enc Try.prog W base sp hd fuel 31 [v] = some x) :
    ∃ (a : Option Addr) (n cp : Nat) (l : List (Nat × Nat)), v = .slice a n cp ∧ n = l.length ∧ n ≤ maxLen ∧ RdT W W.heap.size a l ∧ OkT l := by
  rcases Go.Deep.open_slice_pairs Try.underlying31 Try.underlying48 (by kernel_rfl) rfl rfl (by kernel_rfl) (by kernel_rfl) hf with ⟨hcs, hx⟩ | ⟨ad, n, c, m, k, V0, V1, D0, D1, P0, P1, hcs, hb, hl, hm, hmm, hx, hi⟩
  · obtain rfl := (List.cons.inj hcs).1
    exact ⟨none, 0, 0, [], rfl, rfl, Nat.zero_le _, fun h => absurd h (by simp), fun t h => (by cases h)⟩
  · obtain rfl := (List.cons.inj hcs).1
    rcases Nat.eq_zero_or_pos n with h0 | h0
    · subst h0
      exact ⟨some ad, 0, c, [], rfl, rfl, Nat.zero_le _, fun h => absurd h (by simp), fun t h => (by cases h)⟩
    · have hlm : n ≤ m := by rw [hmm]; split <;> omega
      have hs0 : ad.spot = none := spot_no (a := ad.add (0 * 2)) (hi 0 (by omega)).1
      obtain ⟨l, h1, h2, _, h3, h4⟩ := tears_cells (fun a ha => by injection ha with ha; rw [← ha]; exact hs0) hf
      exact ⟨some ad, n, c, l, rfl, h1, h2, h3, h4⟩

set_option maxRecDepth 100000 in
/-- eight cells that read as a call -/
theorem act_cells {fuel : Nat} {cs : List Value} {x : DataW H × List MemPlace} (hf : DataW.trod enc Try.prog W base (fun _ => true) hd fuel 33 cs = some x) :
    ∃ y : Act, cs = actC y ∧ OkAct W y := by
  have hc : Try.prog.cellsOf 33 = 8 := by kernel_rfl
  have k5 : Try.prog.cellsOf 5 = 1 := by kernel_rfl
  have k30 : Try.prog.cellsOf 30 = 1 := by kernel_rfl
  have k3 : Try.prog.cellsOf 3 = 1 := by kernel_rfl
  have k9 : Try.prog.cellsOf 9 = 1 := by kernel_rfl
  have k4 : Try.prog.cellsOf 4 = 1 := by kernel_rfl
  have k31 : Try.prog.cellsOf 31 = 1 := by kernel_rfl
  obtain ⟨xs, n, _, hx, hl, hlen, hg⟩ := DataW.trod_struct Try.underlying33 hf
  rw [hc] at hl
  match cs, hl with
  | [c0, c1, c2, c3, c4, c5, c6, c7], _ =>
    match xs, hlen with
    | [y0, y1, y2, y3, y4, y5, y6, y7], _ =>
      have t0 : DataW.trod enc Try.prog W base (fun _ => true) hd n 5 (([c0, c1, c2, c3, c4, c5, c6, c7].drop 0).take (Try.prog.cellsOf 5)) = some y0 := hg 0 _ rfl
      rw [k5] at t0
      have t1 : DataW.trod enc Try.prog W base (fun _ => true) hd n 5 (([c0, c1, c2, c3, c4, c5, c6, c7].drop 1).take (Try.prog.cellsOf 5)) = some y1 := hg 1 _ rfl
      rw [k5] at t1
      have t2 : DataW.trod enc Try.prog W base (fun _ => true) hd n 5 (([c0, c1, c2, c3, c4, c5, c6, c7].drop 2).take (Try.prog.cellsOf 5)) = some y2 := hg 2 _ rfl
      rw [k5] at t2
      have t3 : DataW.trod enc Try.prog W base (fun _ => true) hd n 30 (([c0, c1, c2, c3, c4, c5, c6, c7].drop 3).take (Try.prog.cellsOf 30)) = some y3 := hg 3 _ rfl
      rw [k30] at t3
      have t4 : DataW.trod enc Try.prog W base (fun _ => true) hd n 3 (([c0, c1, c2, c3, c4, c5, c6, c7].drop 4).take (Try.prog.cellsOf 3)) = some y4 := hg 4 _ rfl
      rw [k3] at t4
      have t5 : DataW.trod enc Try.prog W base (fun _ => true) hd n 9 (([c0, c1, c2, c3, c4, c5, c6, c7].drop 5).take (Try.prog.cellsOf 9)) = some y5 := hg 5 _ rfl
      rw [k9] at t5
      have t6 : DataW.trod enc Try.prog W base (fun _ => true) hd n 4 (([c0, c1, c2, c3, c4, c5, c6, c7].drop 6).take (Try.prog.cellsOf 4)) = some y6 := hg 6 _ rfl
      rw [k4] at t6
      have t7 : DataW.trod enc Try.prog W base (fun _ => true) hd n 31 (([c0, c1, c2, c3, c4, c5, c6, c7].drop 7).take (Try.prog.cellsOf 31)) = some y7 := hg 7 _ rfl
      rw [k31] at t7
      obtain ⟨z0, e0, _, g0⟩ := DataW.trod_int Try.underlying5 t0
      obtain ⟨z1, e1, _, g1⟩ := DataW.trod_int Try.underlying5 t1
      obtain ⟨z2, e2, _, g2⟩ := DataW.trod_int Try.underlying5 t2
      obtain ⟨z4, e4, _, g4⟩ := DataW.trod_int Try.underlying3 t4
      obtain ⟨s5, e5, _, g5⟩ := DataW.trod_string Try.underlying9 t5
      obtain ⟨b6, e6, _⟩ := DataW.trod_bool Try.underlying4 t6
      obtain ⟨n0, rfl, h0⟩ := nat_of_u8 g0
      obtain rfl := (List.cons.inj e0).1
      obtain ⟨n1, rfl, h1⟩ := nat_of_u8 g1
      obtain rfl := (List.cons.inj e1).1
      obtain ⟨n2, rfl, h2⟩ := nat_of_u8 g2
      obtain rfl := (List.cons.inj e2).1
      obtain ⟨h4, h4'⟩ := bounds_i64 g4
      obtain rfl := (List.cons.inj e4).1
      obtain rfl := (List.cons.inj e5).1
      obtain rfl := (List.cons.inj e6).1
      obtain ⟨bA, bn, bc, bl, rfl, q1, q2, q3, q4, q5⟩ := bytes_cell t3
      obtain ⟨tA, tn, tc, tl, rfl, p1, p2, p3, p4⟩ := tears_cell t7
      exact ⟨⟨n0, n1, n2, bA, bn, bc, bl, z4, s5, b6, tA, tn, tc, tl⟩, rfl, ⟨h0, h1, h2, q1, q2, q3, q4, q5, h4, h4', g5, p1, p2, p3, p4⟩⟩

set_option maxRecDepth 100000 in
theorem open_acts {r : Reach} {b0 : Nat} {v : Value} {d : DataW H} {ps : List MemPlace}
    (hval : Value.okWide Try.prog W r b0 22 v) (h0 : DataW.Trod enc Try.prog W base (fun _ => true) hd 22 v d ps) :
    ∃ (A : Option Addr) (n c : Nat), v = .slice A n c ∧ n ≤ maxLen ∧ RdA W A n := by
  obtain ⟨a, n, c, rfl⟩ := okWide_slice Try.underlying22 hval
  have hsp : ∀ ad, a = some ad → ad.spot = none := by
    rintro ad rfl
    simp only [Value.okWide, Try.underlying22, Cell.okWide, Cell.ok] at hval
    exact hval.2.2.2.1
  have hc3 : Try.prog.cellsOf 33 = 8 := by kernel_rfl
  obtain ⟨fuel, hf⟩ := h0
  rcases Go.Deep.open_slice Try.underlying22 hf with ⟨hcs, _⟩ | ⟨ad, len, cap, m, k, D, Pl, hcs, hb, hl, hm, hmm, _, hx⟩
  · have e : a = none ∧ n = 0 ∧ c = 0 := by simpa [Value.cells] using hcs
    obtain ⟨rfl, rfl, rfl⟩ := e
    exact ⟨none, 0, 0, rfl, Nat.zero_le _, fun h => absurd h (by simp)⟩
  · have e : a = some ad ∧ n = len ∧ c = cap := by simpa [Value.cells] using hcs
    obtain ⟨rfl, rfl, rfl⟩ := e
    have hspot := hsp ad rfl
    obtain ⟨b, o, s⟩ := ad
    obtain rfl : s = none := hspot
    have hlm : n ≤ m := by rw [hmm]; split <;> omega
    have each : ∀ i, i < n → ∃ x : Act, (∀ j v, (actC x)[j]? = some v → W.cell? ⟨b, o + i * 8 + j, none⟩ = some v) ∧ OkAct W x := fun i hi => by
      obtain ⟨cs', h1, h2⟩ := hx i (by omega)
      rw [hc3] at h1
      obtain ⟨_, hlen, hcell⟩ := World.cells?_some h1
      obtain ⟨y, rfl, hok⟩ := act_cells h2
      refine ⟨y, fun j v hv => ?_, hok⟩
      have hj : j < 8 := by rw [← hlen]; exact (List.getElem?_eq_some_iff.1 hv).1
      have g0 := hcell j hj
      rw [Addr.add_lit, Addr.add_mid] at g0
      exact g0.trans hv
    refine ⟨some ⟨b, o, none⟩, n, c, rfl, Nat.le_trans hl hm, fun h0 => ⟨b, o, rfl, ?_, each⟩⟩
    obtain ⟨x, h1, _⟩ := each 0 h0
    exact World.block_lt_of_cell? _ _ (h1 0 _ rfl)
end
theorem OkAct.below {w w' : World} {x : Act} (h : OkAct w x) (hb : Below w.heap.size w w') : OkAct w' x :=
  ⟨h.kd, h.a, h.b, h.bn, h.bm, h.bnil, (h.br.below hb).more hb.size, h.bok, h.nlo, h.nhi, h.nm, h.tn, h.tm, fun h0 => by
    obtain ⟨b, o, e, hb', hc⟩ := h.tr h0
    exact ⟨b, o, e, Nat.lt_of_lt_of_le hb' hb.size, fun i t ht => ⟨(hb.cell (p := ⟨b, o + i * 2, none⟩) hb').trans (hc i t ht).1, (hb.cell (p := ⟨b, o + i * 2 + 1, none⟩) hb').trans (hc i t ht).2⟩⟩, h.tok⟩
/-- the four names -/
def nmOf (k : Nat) : ByteArray := match k with | 0 => ⟨#[97]⟩ | 1 => ⟨#[98]⟩ | 2 => ⟨#[115, 46, 49]⟩ | _ => ⟨#[110, 101, 119]⟩
def nameA (x : Act) (k : Nat) : ByteArray := if x.raw then x.nm else nmOf (k % 4)
set_option maxRecDepth 100000 in
set_option maxHeartbeats 400000 in
theorem name_raw (x : Act) (k : Nat) (w : World) (h : x.raw = true) : Calls Try.prog 11 #[.agg (actC x).toArray, .int .u8 k] w fun e w' => e = .returned (.string (nameA x k)) ∧ Below w.heap.size w w' := by
  unfold nameA actC
  rw [if_pos h, h]
  clear h
  go_enter Try.func11, Try.ntmps11
  go_wp2
  go_ret
  exact ⟨rfl, (Below.refl _ _).alloc (Nat.le_refl _) _⟩
set_option maxRecDepth 100000 in
set_option maxHeartbeats 400000 in
theorem name_few (x : Act) (k : Nat) (w : World) (h : x.raw = false) : Calls Try.prog 11 #[.agg (actC x).toArray, .int .u8 k] w fun e w' => e = .returned (.string (nameA x k)) ∧ Below w.heap.size w w' := by
  have hk : k % 4 = 0 ∨ k % 4 = 1 ∨ k % 4 = 2 ∨ k % 4 = 3 := by omega
  unfold nameA actC
  rw [if_neg (by rw [h]; decide), h]
  clear h
  rcases hk with hk | hk | hk | hk
  all_goals
    rw [hk]
    unfold nmOf
    have hm := hk
    have hm2 : ((k : Int) % 4) = ((k % 4 : Nat) : Int) := by omega
    rw [hk] at hm2
    clear hk hm
    go_enter Try.func11, Try.ntmps11
    go_wp2
    go_ret
    exact ⟨rfl, ((Below.refl _ _).alloc (Nat.le_refl _) _).alloc (by simp) _⟩
theorem actname_any (x : Act) (k : Nat) (w : World) : Calls Try.prog 11 #[.agg (actC x).toArray, .int .u8 k] w fun e w' => e = .returned (.string (nameA x k)) ∧ Below w.heap.size w w' := by
  cases h : x.raw with
  | true => exact name_raw x k w h
  | false => exact name_few x k w h
end Go.Proofs.Ytheojokfgndheaa
