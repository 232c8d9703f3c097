/- Several texts in one: RvAck, RvOpen. -/
import Derived.Laws.BitsAllLaws
import Derived.Deep.Cut
import Derived.Deep.CutRange
import Derived.Deep.Slices
import Derived.Deep.SlicePairs
import Derived.Deep.MidRow
import Derived.Test.YtocdhnlffemnhaaQa9
import Derived.Test.YtocdhnlffemnhaaQa15
/- Layer 11: Ack of a receiver. -/
namespace Go.Proofs.Ytocdhnlffemnhaa
open Go.RowKit

/-- the bits of those numbers below n that p holds for -/
def bitsN (p : Nat → Bool) : Nat → Nat
  | 0 => 0
  | n + 1 => bitsN p n + (if p n then 2 ^ n else 0)
theorem bitsN_lt (p : Nat → Bool) : ∀ n, bitsN p n < 2 ^ n
  | 0 => Nat.one_pos
  | n + 1 => by
    have h := bitsN_lt p n
    have h2 : (2 : Nat) ^ (n + 1) = 2 ^ n + 2 ^ n := by rw [Nat.pow_succ]; omega
    unfold bitsN
    split <;> omega
theorem bitsN_more (p : Nat → Bool) (n : Nat) : ∀ j, (∀ i, n ≤ i → i < n + j → p i = false) → bitsN p (n + j) = bitsN p n
  | 0, _ => rfl
  | j + 1, h => by
    show bitsN p (n + j) + (if p (n + j) then 2 ^ (n + j) else 0) = _
    rw [h (n + j) (by omega) (by omega), bitsN_more p n j (fun i h1 h2 => h i h1 (by omega))]
    simp
theorem bitsN_congr {p r : Nat → Bool} : ∀ n, (∀ i, i < n → p i = r i) → bitsN p n = bitsN r n
  | 0, _ => rfl
  | n + 1, h => by
    show bitsN p n + (if p n then 2 ^ n else 0) = bitsN r n + (if r n then 2 ^ n else 0)
    rw [bitsN_congr n (fun i hi => h i (by omega)), h n (by omega)]
theorem or_pow {a n : Nat} (ha : a < 2 ^ n) (hn : n < 64) : bits .or .u64 (a : Int) ((2 ^ n : Nat) : Int) = ((a + 2 ^ n : Nat) : Int) := by
  have h64 : (2 : Nat) ^ n * 2 ≤ 2 ^ 64 := by
    rw [← Nat.pow_succ]
    exact Nat.pow_le_pow_right (by decide) (by omega)
  rw [u64_or_nat _ _ (by omega) (by omega)]
  have h := Nat.two_pow_add_eq_or_of_lt ha 1
  rw [Nat.mul_one] at h
  rw [Nat.or_comm, ← h, Nat.add_comm]
/-- which numbers behind the expected one are held -/
def heldB (F : Hs) (n : Nat) : Nat → Bool := fun i => (F (n + 1 + i)).isSome
section
variable {s m k : Nat} {X : Rv} {F : Hs}
set_option maxRecDepth 100000 in
set_option maxHeartbeats 1000000 in
theorem rack_any {n : Nat} (w : World) (h : RvAt w s m X F k) (hn : n = X.t + 1) (ht : X.t ≤ 1099511627776) (hW : 1 ≤ X.W) (hW2 : X.W ≤ 64) :
    Calls Try.prog 28 #[.pointer (some ⟨s, 0, none⟩)] w fun e w' => e = .returned (.tuple #[.int .u64 X.t, .int .u64 (bitsN (heldB F n) (X.W - 1))]) ∧ Below w.heap.size w w' := by
  have c0 := h.c0
  have HR := Lib.hid h
  obtain ⟨M, hM⟩ : ∃ M, M = X.W - 1 := ⟨_, rfl⟩
  rw [← hM]
  have e1 : (X.W : Int) - 1 = (M : Int) := by omega
  have e2 : IntKind.i64.wrap (M : Int) = (M : Int) := by rw [IntKind.wrap_i64]; omega
  have HN : Hid (n = X.t + 1 ∧ X.t ≤ 1099511627776 ∧ M ≤ 63) := ⟨hn, ht, by omega⟩
  clear h hn ht hW hW2 hM
  go_enter Try.func28, Try.ntmps28
  go_wp2
  go_loopw [3, 12] (fun bv iv wx => ∃ i : Nat, i ≤ M ∧ iv = .int .i64 i ∧ bv = .int .u64 (bitsN (heldB F n) i) ∧ Hid (Below w.heap.size w wx)) (fun _ iv _ => M - (intOf iv).toNat)
  case atStart => exact ⟨0, Nat.zero_le _, rfl, rfl, Below.refl _ _⟩
  case round =>
    obtain ⟨i, hi, rfl, rfl, HB⟩ := hrel
    by_cases hlt : i < M
    · have q1 : decide ((i : Int) < (M : Int)) = true := decide_eq_true (by omega)
      have q2 : decide (i < M) = true := decide_eq_true hlt
      have hr := HR.out.below HB.out
      have HW := Lib.hid (rwant_any wr hr HN.out.1 HN.out.2.1)
      obtain ⟨n1, hn1⟩ : ∃ z, z = n + 1 := ⟨_, rfl⟩
      obtain ⟨q, hq⟩ : ∃ z, z = n1 + i := ⟨_, rfl⟩
      have hnn := HN.out
      have e3 : (n : Int) + 1 = (n1 : Int) := by omega
      have e4 : IntKind.u64.wrap (n1 : Int) = (n1 : Int) := by rw [IntKind.wrap_u64]; omega
      have e5 : IntKind.u64.wrap (i : Int) = (i : Int) := by rw [IntKind.wrap_u64]; omega
      have e6 : (n1 : Int) + (i : Int) = (q : Int) := by omega
      have e7 : IntKind.u64.wrap (q : Int) = (q : Int) := by rw [IntKind.wrap_u64]; omega
      obtain ⟨b, hb⟩ : ∃ b, b = heldB F n i := ⟨_, rfl⟩
      have hbq : (F q).isSome = b := by rw [hb, hq, hn1]; rfl
      have HH := Lib.hid (rhas_any q wr hr (by omega) hbq)
      obtain ⟨z, hz⟩ : ∃ z, z = bitsN (heldB F n) i := ⟨_, rfl⟩
      have hzl : z < 2 ^ i := by rw [hz]; exact bitsN_lt _ _
      have hzn : bitsN (heldB F n) (i + 1) = z + (if b then 2 ^ i else 0) := by rw [hz, hb]; rfl
      rw [← hz]
      have HZ := Lib.hid (⟨hzl, hzn⟩ : _ ∧ _)
      have HI : Hid (i < 64) := by show i < 64; omega
      have HSH : Hid (bits BinOp.or .u64 (z : Int) (IntKind.u64.wrap (2 ^ i)) = ((z + 2 ^ i : Nat) : Int)) := by
        show bits BinOp.or .u64 (z : Int) (IntKind.u64.wrap (2 ^ i)) = ((z + 2 ^ i : Nat) : Int)
        have h64 : (2 : Nat) ^ i * 2 ≤ 2 ^ 64 := by
          rw [← Nat.pow_succ]
          exact Nat.pow_le_pow_right (by decide) (by have := HI.out; omega)
        have e : IntKind.u64.wrap ((2 : Int) ^ i) = ((2 ^ i : Nat) : Int) := by
          rw [IntKind.wrap_u64, show ((2 : Int) ^ i) = ((2 ^ i : Nat) : Int) by push_cast; rfl]
          omega
        rw [e]
        exact or_pow HZ.out.1 HI.out
      have hM63 : M ≤ 63 := HN.out.2.2
      clear hr hn1 hq hnn hb hbq hz hzl hzn
      cases b with
      | true =>
        go_wp2_with fail
        refine HW.out.mono ?_
        rintro _ _ ⟨rfl, rfl⟩
        go_wp2_with fail
        refine HH.out.mono ?_
        rintro _ w1 ⟨rfl, hb1⟩
        have HB1 := Lib.hid (HB.out.trans (hb1.mono HB.out.size))
        clear hb1 HH HW e3 e6
        go_wp2
        go_roundw
        case rel => exact ⟨i + 1, by omega, by go_num, by rw [HSH.out, HZ.out.2]; simp, HB1.out⟩
        case measure => simp [intOf]; omega
      | false =>
        go_wp2_with fail
        refine HW.out.mono ?_
        rintro _ _ ⟨rfl, rfl⟩
        go_wp2_with fail
        refine HH.out.mono ?_
        rintro _ w1 ⟨rfl, hb1⟩
        have HB1 := Lib.hid (HB.out.trans (hb1.mono HB.out.size))
        have hzn : z = bitsN (heldB F n) (i + 1) := HZ.out.2.symm
        have HZN := Lib.hid hzn
        clear hb1 HH HW e3 e6 hzn
        go_wp2
        go_roundw
        case rel => exact ⟨i + 1, by omega, by go_num, by rw [HZN.out], HB1.out⟩
        case measure => simp [intOf]; omega
    · obtain rfl : i = M := by omega
      have q1 : decide ((i : Int) < (i : Int)) = false := decide_eq_false (by omega)
      have q2 : decide (i < i) = false := decide_eq_false (by omega)
      have c1 := (HR.out.below HB.out).c1
      go_wp2
      go_ret2
      exact ⟨rfl, HB.out⟩
end
end Go.Proofs.Ytocdhnlffemnhaa
/- Layer 11: the statements' list of calls, as it comes in: how it lies. -/
namespace Go.Proofs.Ytocdhnlffemnhaa
open Go.RowKit Go.ChangeShapes Go.WideShapes

/-- a call as it comes in -/
structure Ac where
  kd : Nat
  sq : Nat
  sm : Sm
  x : It
  A : Option Addr
  n : Nat
  c : Nat
  raw : Bool
def acC (y : Ac) : List Value := [.int .u8 y.kd, .int .u64 y.sq, .bool (y.sm).g, .int .u8 (y.sm).o, .int .u8 (y.sm).p, .int .u8 (y.sm).w, .int .u16 (y.sm).q, .int .u16 (y.sm).m, .int .u16 (y.sm).t, .int .u8 (y.sm).r, .int .u8 (y.sm).l, .int .u8 (y.sm).v, .bool (y.sm).s, .bool (y.x).g, .int .u8 (y.x).o, .int .u64 (y.x).q, .int .u64 (y.x).t, .string (y.x).r, .slice y.A y.n y.c, .int .u8 (y.x).s, .int .u8 (y.x).p, .int .i64 (y.x).v, .int .u8 (y.x).w, .int .u8 (y.x).ga, .int .u64 (y.x).gf, .int .u64 (y.x).gt, .bool y.raw]
theorem acC_length (y : Ac) : (acC y).length = 27 := rfl
structure OkAc (w : World) (y : Ac) : Prop where
  kd : y.kd < 256
  sq : y.sq < 18446744073709551616
  sm : OkS y.sm
  n : y.n = y.x.l.length
  m : y.n ≤ maxLen
  nil : y.A = none → y.n = 0
  ok : OkI y.x
  rd : RdP w w.heap.size y.A y.x.l
/-- the slice at A holds n calls -/
def RdAc (w : World) (A : Option Addr) (n : Nat) : Prop :=
  0 < n → ∃ b o, A = some ⟨b, o, none⟩ ∧ b < w.heap.size ∧ ∀ i, i < n → ∃ y : Ac, w.rangeAt b (o + i * 27) (acC y) ∧ OkAc w y
theorem spot_no11 {w : World} {a : Addr} {v : Value} (h : w.cell? a = some v) : a.spot = none := by
  unfold World.cell? at h
  split at h
  · split at h
    · cases h
    · rename_i hs
      simpa using hs
  · cases h
section
variable {H : Type} {enc : TypeId × Value → H} {W : World} {base : Nat} {hd : Bool} {sp : Nat → Bool}
set_option maxRecDepth 100000 in
/-- pairs, from the cell of their slice -/
theorem pairs_cell {fuel : Nat} {v : Value} {x : DataW H × List MemPlace} (hf : DataW.trod enc Try.prog W base sp hd fuel 23 [v] = some x) :
    ∃ (A : Option Addr) (n c : Nat) (l : List Pr), v = .slice A n c ∧ n = l.length ∧ n ≤ maxLen ∧ (A = none → n = 0) ∧ RdP W W.heap.size A l ∧ OkP l := by
  rcases Go.Deep.open_slice_pairs Try.underlying23 Try.underlying116 (by kernel_rfl) rfl rfl (by kernel_rfl) (by kernel_rfl) hf with ⟨hcs, hx⟩ | ⟨ad, n, c, m, k, V0, V1, D0, D1, P0, P1, hcs, hb, hl, hm, hmm, hx, hi⟩
  · obtain rfl := (List.cons.inj hcs).1
    exact ⟨none, 0, 0, [], rfl, rfl, Nat.zero_le _, fun _ => rfl, fun h => absurd h (by simp), fun i p h => (by simp at h)⟩
  · obtain rfl := (List.cons.inj hcs).1
    rcases Nat.eq_zero_or_pos n with h0 | h0
    · subst h0
      exact ⟨some ad, 0, c, [], rfl, rfl, Nat.zero_le _, fun _ => rfl, fun h => absurd h (by simp), fun i p h => (by simp at h)⟩
    have hlm : n ≤ m := by rw [hmm]; split <;> omega
    have hs0 : ad.spot = none := spot_no11 (a := ad.add (0 * 2)) (hi 0 (by omega)).1
    obtain ⟨b, o, s⟩ := ad
    obtain rfl : s = none := hs0
    have each : ∀ i, i < n → ∃ p : Pr, V0 i = .string p.1 ∧ V1 i = .string p.2 ∧ p.1.size ≤ maxLen ∧ p.2.size ≤ maxLen := fun i h => by
      obtain ⟨_, _, t0, t1⟩ := hi i (by omega)
      obtain ⟨s0, e0, x0, z0⟩ := DataW.trod_string Try.underlying9 t0
      obtain ⟨s1, e1, x1, z1⟩ := DataW.trod_string Try.underlying9 t1
      exact ⟨(s0, s1), (List.cons.inj e0).1, (List.cons.inj e1).1, z0, z1⟩
    have pick : ∃ f : Nat → Pr, ∀ i, i < n → V0 i = .string (f i).1 ∧ V1 i = .string (f i).2 ∧ (f i).1.size ≤ maxLen ∧ (f i).2.size ≤ maxLen :=
      ⟨fun i => if h : i < n then (each i h).choose else (⟨#[]⟩, ⟨#[]⟩), fun i h => by simp only [dif_pos h]; exact (each i h).choose_spec⟩
    obtain ⟨f, hf'⟩ := pick
    have hget : ∀ (i : Nat) (p : Pr), ((List.range n).map f)[i]? = some p → i < n ∧ p = f i := fun i p hp => by
      rw [List.getElem?_map] at hp
      obtain ⟨j, hj, rfl⟩ := Option.map_eq_some_iff.1 hp
      obtain ⟨h1, h2⟩ := List.getElem?_eq_some_iff.1 hj
      rw [List.length_range] at h1
      rw [List.getElem_range] at h2
      exact ⟨h1, by rw [h2]⟩
    refine ⟨some ⟨b, o, none⟩, n, c, (List.range n).map f, rfl, by simp, Nat.le_trans hl hm, fun h => (by cases h), fun _ => ⟨b, o, rfl, ?_, fun i p hp => ?_⟩, fun i p hp => ?_⟩
    · exact World.block_lt_of_cell? _ _ ((hi 0 (by omega)).1)
    · obtain ⟨hin, rfl⟩ := hget i p hp
      obtain ⟨c0, c1, _, _⟩ := hi i (by omega)
      obtain ⟨v0, v1, _, _⟩ := hf' i hin
      rw [Addr.add_lit] at c0 c1
      rw [v0] at c0; rw [v1] at c1
      exact ⟨c0, by rw [Nat.add_assoc]; exact c1⟩
    · obtain ⟨hin, rfl⟩ := hget i p hp
      exact (hf' i hin).2.2
set_option maxRecDepth 100000 in
/-- thirteen cells that read as an item -/
theorem item_cells {fuel : Nat} {cs : List Value} {x : DataW H × List MemPlace} (hf : DataW.trod enc Try.prog W base sp hd fuel 30 cs = some x) :
    ∃ (y : It) (A : Option Addr) (n c : Nat), cs = [.bool y.g, .int .u8 y.o, .int .u64 y.q, .int .u64 y.t, .string y.r, .slice A n c, .int .u8 y.s, .int .u8 y.p, .int .i64 y.v, .int .u8 y.w, .int .u8 y.ga, .int .u64 y.gf, .int .u64 y.gt] ∧ n = y.l.length ∧ n ≤ maxLen ∧ (A = none → n = 0) ∧ OkI y ∧ RdP W W.heap.size A y.l := by
  have hc : Try.prog.cellsOf 30 = 13 := by kernel_rfl
  have k4 : Try.prog.cellsOf 4 = 1 := by kernel_rfl
  have k26 : Try.prog.cellsOf 26 = 9 := by kernel_rfl
  have k28 : Try.prog.cellsOf 28 = 3 := by kernel_rfl
  obtain ⟨xs, n, _, hx, hl, hlen, hg⟩ := DataW.trod_struct Try.underlying30 hf
  rw [hc] at hl
  match cs, hl with
  | [c0, c1, c2, c3, c4, c5, c6, c7, c8, c9, c10, c11, c12], _ =>
    match xs, hlen with
    | [y0, y1, y2], _ =>
      have t0 : DataW.trod enc Try.prog W base sp hd n 4 (([c0, c1, c2, c3, c4, c5, c6, c7, c8, c9, c10, c11, c12].drop 0).take (Try.prog.cellsOf 4)) = some y0 := hg 0 _ rfl
      rw [k4] at t0
      have t1 : DataW.trod enc Try.prog W base sp hd n 26 (([c0, c1, c2, c3, c4, c5, c6, c7, c8, c9, c10, c11, c12].drop 1).take (Try.prog.cellsOf 26)) = some y1 := hg 1 _ rfl
      rw [k26] at t1
      have t2 : DataW.trod enc Try.prog W base sp hd n 28 (([c0, c1, c2, c3, c4, c5, c6, c7, c8, c9, c10, c11, c12].drop 10).take (Try.prog.cellsOf 28)) = some y2 := hg 2 _ rfl
      rw [k28] at t2
      obtain ⟨b, e0, _⟩ := DataW.trod_bool Try.underlying4 t0
      obtain ⟨o, q, t, rr, L, s, p, v, w, m, z, e1, tL, b1, b2, b3, b4, b5, b6, b7, b7', b8, -⟩ := event_cells t1
      obtain ⟨ga, gf, gt, e2, b9, b10, b11⟩ := gap_cells t2
      obtain rfl := (List.cons.inj e0).1
      have e1' : [c1, c2, c3, c4, c5, c6, c7, c8, c9] = _ := e1
      have e2' : [c10, c11, c12] = _ := e2
      simp only [List.cons.injEq, and_true] at e1' e2'
      obtain ⟨rfl, rfl, rfl, rfl, rfl, rfl, rfl, rfl, rfl⟩ := e1'
      obtain ⟨rfl, rfl, rfl⟩ := e2'
      obtain ⟨A, k, c, l, rfl, hk, hkm, hA, hr, hok⟩ := pairs_cell tL
      exact ⟨⟨b, o, q, t, rr, l, s, p, v, w, ga, gf, gt⟩, A, k, c, rfl, hk, hkm, hA, ⟨b1, b2, b3, b4, hok, b5, b6, b7, b7', b8, b9, b10, b11⟩, hr⟩
end
theorem OkAc.below {w w' : World} {y : Ac} (h : OkAc w y) (hb : Below w.heap.size w w') : OkAc w' y :=
  ⟨h.kd, h.sq, h.sm, h.n, h.m, h.nil, h.ok, rdP_keep8 h.rd hb⟩
/-- a call of the list, in a later world -/
theorem RdAc.at_ {w w' : World} {A : Option Addr} {n i : Nat} (h : RdAc w A n) (hb : Below w.heap.size w w') (hi : i < n) : ∃ (b o : Nat) (y : Ac), A = some ⟨b, o, none⟩ ∧ w'.rangeAt b (o + i * 27) (acC y) ∧ OkAc w y := by
  obtain ⟨b, o, rfl, hbl, hy⟩ := h (by omega)
  obtain ⟨y, h1, h2⟩ := hy i hi
  exact ⟨b, o, y, rfl, fun j u hj => (hb.cell (p := ⟨b, o + i * 27 + j, none⟩) hbl).trans (h1 j u hj), h2⟩
end Go.Proofs.Ytocdhnlffemnhaa
