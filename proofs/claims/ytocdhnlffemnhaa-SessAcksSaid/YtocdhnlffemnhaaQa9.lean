/- Several texts in one: Open, ItOpen. -/
import Derived.Test.YtocdhnlffemnhaaRows
import Derived.WalkKit
import Derived.ProofKit
import Derived.OpenShut
import Derived.WideKeyArgs
import Derived.ChangeMaps5
import Derived.ChangeSlices
import Derived.Below
import Derived.Deep.Slices
import Derived.Test.YtocdhnlffemnhaaQa3
import Derived.Test.YtocdhnlffemnhaaQa8
/- What comes in: bytes, numbers; a law's last step. -/
namespace Go.Proofs.Ytocdhnlffemnhaa
open Go.RowKit

theorem ownKnob_ : ownKnob Try.prog.godebug = none := by kernel_rfl
theorem laidOut_ : laidOutB Try.prog = true := by kernel_rfl

section
open Go.WideShapes Go.ChangeShapes
variable {H : Type} {enc : TypeId × Value → H}

/-- arguments read on, wherever the places that were met hold what they held -/
theorem reads_on {W W' : World} {sp : Nat → Bool} : ∀ (ts : List TypeId) (vs : List Value) (ds : List (DataW H)) (ps : List MemPlace),
    (∀ t ∈ ts, Try.prog.readableRec t = true ∧ t < Try.prog.types.size) → DataW.TrodAll enc Try.prog W 0 (fun _ => true) true ts vs ds ps → (∀ p ∈ ps, W.sameAt W' p) → (∀ p ∈ ps, sp p.block = true) →
    DataW.TrodAll enc Try.prog W' 0 sp true ts vs ds ps
  | [], vs, ds, ps, _, h, _, _ => by
    obtain ⟨rfl, rfl, rfl⟩ := trodAll_nil h
    exact trodAll_mk0
  | t :: ts, vs, ds, ps, ht, h, h1, h2 => by
    obtain ⟨v, vs', d, ds', p, q, rfl, rfl, rfl, hd, hr⟩ := trodAll_cons h
    obtain ⟨ha, hb⟩ := ht t (by simp)
    exact trodAll_cons_mk (WideElems.Trod_stays laidOut_ ha hb hd (fun x hx => h1 x (by simp [hx])) (fun x hx => h2 x (by simp [hx])))
      (reads_on ts vs' ds' q (fun t' ht' => ht t' (by simp [ht'])) hr (fun x hx => h1 x (by simp [hx])) (fun x hx => h2 x (by simp [hx])))

set_option maxRecDepth 100000 in
/-- a law's last step: it has answered true, and below its own blocks nothing has turned -/
theorem law_post {f : Func} {s : ChangeSpec} {apart fresh handsOn again : Bool} {W W' : World} {args : Array Value} {ds gs : List (DataW H)} {before : List MemPlace}
    (hpar : ∀ t ∈ f.params.toList, Try.prog.readableRec t = true ∧ t < Try.prog.types.size) (hres : f.resultTypes = #[4]) (hvars : s.vars = [])
    (hspec : s.fn H (ds ++ gs) = { results := [.lit (.bool true)], args := ds })
    (hW : DataW.Whole enc Try.prog f.params.toList s.vars apart W args.toList ds gs before) (hb : Below W.heap.size W W') :
    s.post enc Try.prog f apart fresh handsOn again W args (.bool true) W' := by
  have hlt : ∀ p ∈ before, p.block < W.heap.size := fun p hp => hW.lt p hp
  have hW' := hW
  obtain ⟨p, q, hA, hV, hpq, hz, hn⟩ := hW
  rw [hvars] at hV
  obtain ⟨rfl, rfl⟩ := trodVars_none hV
  have hpp : before = p := by rw [hpq]; simp
  have hargs : ∀ sp : Nat → Bool, (∀ x ∈ before, sp x.block = true) → DataW.TrodAll enc Try.prog W' 0 sp true f.params.toList args.toList ds p := fun sp hsp =>
    reads_on _ _ _ _ hpar hA (fun x hx => hb.same (hlt x (by rw [hpp]; exact hx))) (fun x hx => hsp x (by rw [hpp]; exact hx))
  have hr : ∀ (b : Nat) (sp : Nat → Bool) (hd : Bool), DataW.TrodAll enc Try.prog W' b sp hd f.resultTypes.toList ((Value.bool true).resultList f.resultTypes.size) [.lit (.bool true)] [] := fun b sp hd => by
    rw [hres]
    exact trodAll_mk1 (shut_bool Try.underlying4 _)
  have hold : ∀ x ∈ before, (fun b => decide (b < W.heap.size)) x.block = true := fun x hx => by simpa using hlt x hx
  have hv : ∀ sp : Nat → Bool, DataW.TrodVars enc Try.prog W' sp s.vars ([] : List (DataW H)) [] := fun sp => by rw [hvars]; rfl
  have e1 : (s.fn H (ds ++ [])).results = [.lit (.bool true)] := by rw [hspec]
  have e2 : (s.fn H (ds ++ [])).args = ds := by rw [hspec]
  have e3 : (s.fn H (ds ++ [])).vars = [] := by rw [hspec]
  refine ⟨ds, [], before, [], p, [], hW', by rw [e1]; exact hr _ _ _, by rw [e2]; exact hargs _ hold, by rw [e3]; exact hv _, World.keptBut_mono (fun x hx => ⟨hx, Or.inr (Or.inl (by rw [← hpp]; exact hx))⟩) (hb.frame (· ∈ before)), fun _ => ?_⟩
  refine ⟨?_, _, _, ([] ++ p) ++ [], ⟨[] ++ p, [], trodAll_append (hargs _ (fun _ _ => rfl)) (hr _ _ _), hv _, rfl, ?_, ?_⟩, ?_⟩
  · intro j t r h1 h2
    rw [hres] at h1 h2
    match j, h1, h2 with
    | 0, h1, h2 =>
      obtain rfl : 4 = t := by simpa using h1
      obtain rfl : Value.bool true = r := by simpa [Value.resultList] using h2
      exact okWide_bool_mk Try.underlying4 _
    | j + 1, h1, _ => simp at h1
  · intro b off hx
    have hin : MemPlace.cell b off ∈ before := by rw [hpp]; simpa using hx
    rw [hb.frozen (hlt _ hin)]
    exact hz b off hin
  · intro ha
    have h1 := hn ha
    rw [hpp] at h1
    simpa using h1
  · intro x hx _
    rw [hpp]
    simpa using hx

theorem nat_of_u8 {z : Int} (h : (Lit.int .u8 z).wf = true) : ∃ x : Nat, z = x ∧ x < 256 := by
  have hmin : IntKind.u8.min = 0 := rfl
  have hmax : IntKind.u8.max = 255 := rfl
  simp only [Lit.wf, Bool.and_eq_true, decide_eq_true_eq, hmin, hmax] at h
  exact ⟨z.toNat, by omega, by omega⟩
theorem nat_of_u16 {z : Int} (h : (Lit.int .u16 z).wf = true) : ∃ x : Nat, z = x ∧ x < 65536 := by
  have hmin : IntKind.u16.min = 0 := rfl
  have hmax : IntKind.u16.max = 65535 := rfl
  simp only [Lit.wf, Bool.and_eq_true, decide_eq_true_eq, hmin, hmax] at h
  exact ⟨z.toNat, by omega, by omega⟩
theorem nat_of_u32 {z : Int} (h : (Lit.int .u32 z).wf = true) : ∃ x : Nat, z = x ∧ x < 4294967296 := by
  have hmin : IntKind.u32.min = 0 := rfl
  have hmax : IntKind.u32.max = 4294967295 := rfl
  simp only [Lit.wf, Bool.and_eq_true, decide_eq_true_eq, hmin, hmax] at h
  exact ⟨z.toNat, by omega, by omega⟩

theorem map_nat : ∀ (zs : List Int), (∀ z ∈ zs, (Lit.int .u8 z).wf = true) → ∃ xs : List Nat, zs = xs.map (fun x : Nat => (x : Int)) ∧ OkB xs
  | [], _ => ⟨[], rfl, fun x hx => (by cases hx)⟩
  | z :: zs, h => by
    obtain ⟨x, rfl, hx⟩ := nat_of_u8 (h z (by simp))
    obtain ⟨xs, rfl, hxs⟩ := map_nat zs fun y hy => h y (by simp [hy])
    exact ⟨x :: xs, rfl, fun y hy => by simp at hy; rcases hy with rfl | hy; exact hx; exact hxs y hy⟩

set_option maxRecDepth 100000 in
theorem open_bytes {W : World} {base : Nat} {sp : Nat → Bool} {hd : Bool} {r : Reach} {b0 : Nat} {v : Value} {d : DataW H} {ps : List MemPlace}
    (hval : Value.okWide Try.prog W r b0 33 v) (h0 : DataW.Trod enc Try.prog W base sp hd 33 v d ps) :
    ∃ (A : Option Addr) (n c : Nat) (l : List Nat), v = .slice A n c ∧ n = l.length ∧ n ≤ maxLen ∧ (A = none → n = 0) ∧ RdB W W.heap.size A l ∧ OkB l ∧ n ≤ c := by
  obtain ⟨a, n, c, rfl⟩ := okWide_slice Try.underlying33 hval
  have hsp : ∀ ad, a = some ad → ad.spot = none := by
    rintro ad rfl
    simp only [Value.okWide, Try.underlying33, Cell.okWide, Cell.ok] at hval
    exact hval.2.2.2.1
  obtain ⟨fuel, hf⟩ := h0
  rcases open_ints Try.underlying33 Try.underlying5 (by kernel_rfl) hf with ⟨hcs, hx⟩ | ⟨ad, len, cap, zs, hcs, hb, hl, hm, hlen, hx, hc, hz⟩
  · have e : a = none ∧ n = 0 ∧ c = 0 := by simpa [Value.cells] using hcs
    obtain ⟨rfl, rfl, rfl⟩ := e
    exact ⟨none, 0, 0, [], rfl, rfl, Nat.zero_le _, fun _ => rfl, fun h => absurd h (by simp), fun x h => (by cases h), Nat.le_refl _⟩
  · have e : a = some ad ∧ n = len ∧ c = cap := by simpa [Value.cells] using hcs
    obtain ⟨rfl, rfl, rfl⟩ := e
    have hspot := hsp ad rfl
    obtain ⟨b, o, s⟩ := ad
    obtain rfl : s = none := hspot
    obtain ⟨xs, rfl, hok⟩ := map_nat zs hz
    rw [List.length_map] at hlen hc
    have hls : n ≤ xs.length := by rw [hlen]; split <;> omega
    refine ⟨some ⟨b, o, none⟩, n, c, xs.take n, rfl, by simp; omega, Nat.le_trans hl hm, fun h => (by cases h), fun h => ⟨b, o, rfl, ?_, fun i x hi => ?_⟩, hok.take n, hl⟩
    · have h0 : 0 < n := by have := h; simp at this; omega
      exact World.block_lt_of_cell? _ _ (hc 0 (by omega))
    · obtain ⟨h1, h2⟩ := List.getElem?_eq_some_iff.1 hi
      rw [List.length_take] at h1
      have h3 := hc i (by omega)
      rw [Addr.add_lit] at h3
      rw [h3, ← h2, List.getElem_take, List.getD_eq_getElem?_getD, List.getElem?_eq_getElem (by simp; omega)]
      simp
end
end Go.Proofs.Ytocdhnlffemnhaa
/- Layer 4: an item, small numbers, and a list of these that come in: how they are read, and how they lie. -/
namespace Go.Proofs.Ytocdhnlffemnhaa
open Go.RowKit Go.ChangeShapes Go.WideShapes

theorem nat_of_u64 {z : Int} (h : (Lit.int .u64 z).wf = true) : ∃ x : Nat, z = x ∧ x < 18446744073709551616 := by
  have hmin : IntKind.u64.min = 0 := rfl
  have hmax : IntKind.u64.max = 18446744073709551615 := rfl
  simp only [Lit.wf, Bool.and_eq_true, decide_eq_true_eq, hmin, hmax] at h
  exact ⟨z.toNat, by omega, by omega⟩
theorem bounds_i64 {z : Int} (h : (Lit.int .i64 z).wf = true) : -9223372036854775808 ≤ z ∧ z < 9223372036854775808 := by
  have hmin : IntKind.i64.min = -9223372036854775808 := rfl
  have hmax : IntKind.i64.max = 9223372036854775807 := rfl
  simp only [Lit.wf, Bool.and_eq_true, decide_eq_true_eq, hmin, hmax] at h
  exact ⟨by omega, by omega⟩

section
variable {H : Type} {enc : TypeId × Value → H} {W : World} {base : Nat} {sp : Nat → Bool} {hd : Bool}

set_option maxRecDepth 100000 in
/-- nine cells that read as an event -/
theorem event_cells {fuel : Nat} {cs : List Value} {x : DataW H × List MemPlace} (hf : DataW.trod enc Try.prog W base sp hd fuel 26 cs = some x) :
    ∃ (o q t : Nat) (r : ByteArray) (L : Value) (s p : Nat) (v : Int) (w : Nat) (n : Nat) (z : DataW H × List MemPlace), cs = [.int .u8 o, .int .u64 q, .int .u64 t, .string r, L, .int .u8 s, .int .u8 p, .int .i64 v, .int .u8 w] ∧
      DataW.trod enc Try.prog W base sp hd n 23 [L] = some z ∧ o < 256 ∧ q < 18446744073709551616 ∧ t < 18446744073709551616 ∧ r.size ≤ maxLen ∧ s < 256 ∧ p < 256 ∧ -9223372036854775808 ≤ v ∧ v < 9223372036854775808 ∧ w < 256 ∧
      ∃ d0 d1 d2 d5 d6 d7 d8, x.1 = .agg [d0, d1, d2, .lit (.string r.data.toList), z.1, d5, d6, d7, d8] := by
  have hc : Try.prog.cellsOf 26 = 9 := by kernel_rfl
  have k5 : Try.prog.cellsOf 5 = 1 := by kernel_rfl
  have k22 : Try.prog.cellsOf 22 = 1 := by kernel_rfl
  have k9 : Try.prog.cellsOf 9 = 1 := by kernel_rfl
  have k23 : Try.prog.cellsOf 23 = 1 := by kernel_rfl
  have k24 : Try.prog.cellsOf 24 = 1 := by kernel_rfl
  have k2 : Try.prog.cellsOf 2 = 1 := by kernel_rfl
  obtain ⟨xs, n, _, hx, hl, hlen, hg⟩ := DataW.trod_struct Try.underlying26 hf
  rw [hc] at hl
  match cs, hl with
  | [c0, c1, c2, c3, c4, c5, c6, c7, c8], _ =>
    match xs, hlen with
    | [y0, y1, y2, y3, y4, y5, y6, y7, y8], _ =>
      have t0 : DataW.trod enc Try.prog W base sp hd n 5 (([c0, c1, c2, c3, c4, c5, c6, c7, c8].drop 0).take (Try.prog.cellsOf 5)) = some y0 := hg 0 _ rfl
      rw [k5] at t0
      have t1 : DataW.trod enc Try.prog W base sp hd n 22 (([c0, c1, c2, c3, c4, c5, c6, c7, c8].drop 1).take (Try.prog.cellsOf 22)) = some y1 := hg 1 _ rfl
      rw [k22] at t1
      have t2 : DataW.trod enc Try.prog W base sp hd n 22 (([c0, c1, c2, c3, c4, c5, c6, c7, c8].drop 2).take (Try.prog.cellsOf 22)) = some y2 := hg 2 _ rfl
      rw [k22] at t2
      have t3 : DataW.trod enc Try.prog W base sp hd n 9 (([c0, c1, c2, c3, c4, c5, c6, c7, c8].drop 3).take (Try.prog.cellsOf 9)) = some y3 := hg 3 _ rfl
      rw [k9] at t3
      have t4 : DataW.trod enc Try.prog W base sp hd n 23 (([c0, c1, c2, c3, c4, c5, c6, c7, c8].drop 4).take (Try.prog.cellsOf 23)) = some y4 := hg 4 _ rfl
      rw [k23] at t4
      have t5 : DataW.trod enc Try.prog W base sp hd n 24 (([c0, c1, c2, c3, c4, c5, c6, c7, c8].drop 5).take (Try.prog.cellsOf 24)) = some y5 := hg 5 _ rfl
      rw [k24] at t5
      have t6 : DataW.trod enc Try.prog W base sp hd n 5 (([c0, c1, c2, c3, c4, c5, c6, c7, c8].drop 6).take (Try.prog.cellsOf 5)) = some y6 := hg 6 _ rfl
      rw [k5] at t6
      have t7 : DataW.trod enc Try.prog W base sp hd n 2 (([c0, c1, c2, c3, c4, c5, c6, c7, c8].drop 7).take (Try.prog.cellsOf 2)) = some y7 := hg 7 _ rfl
      rw [k2] at t7
      have t8 : DataW.trod enc Try.prog W base sp hd n 5 (([c0, c1, c2, c3, c4, c5, c6, c7, c8].drop 8).take (Try.prog.cellsOf 5)) = some y8 := hg 8 _ rfl
      rw [k5] at t8
      obtain ⟨z0, e0, _, g0⟩ := DataW.trod_int Try.underlying5 t0
      obtain ⟨z1, e1, _, g1⟩ := DataW.trod_int Try.underlying22 t1
      obtain ⟨z2, e2, _, g2⟩ := DataW.trod_int Try.underlying22 t2
      obtain ⟨s3, e3, x3, g3⟩ := DataW.trod_string Try.underlying9 t3
      obtain ⟨z5, e5, _, g5⟩ := DataW.trod_int Try.underlying24 t5
      obtain ⟨z6, e6, _, g6⟩ := DataW.trod_int Try.underlying5 t6
      obtain ⟨z7, e7, _, g7⟩ := DataW.trod_int Try.underlying2 t7
      obtain ⟨z8, e8, _, g8⟩ := DataW.trod_int Try.underlying5 t8
      obtain ⟨n0, rfl, h0⟩ := nat_of_u8 g0
      obtain rfl := (List.cons.inj e0).1
      obtain ⟨n1, rfl, h1⟩ := nat_of_u64 g1
      obtain rfl := (List.cons.inj e1).1
      obtain ⟨n2, rfl, h2⟩ := nat_of_u64 g2
      obtain rfl := (List.cons.inj e2).1
      obtain rfl := (List.cons.inj e3).1
      obtain ⟨n5, rfl, h5⟩ := nat_of_u8 g5
      obtain rfl := (List.cons.inj e5).1
      obtain ⟨n6, rfl, h6⟩ := nat_of_u8 g6
      obtain rfl := (List.cons.inj e6).1
      obtain ⟨h7, h7'⟩ := bounds_i64 g7
      obtain rfl := (List.cons.inj e7).1
      obtain ⟨n8, rfl, h8⟩ := nat_of_u8 g8
      obtain rfl := (List.cons.inj e8).1
      refine ⟨n0, n1, n2, s3, c4, n5, n6, z7, n8, n, y4, rfl, t4, h0, h1, h2, g3, h5, h6, h7, h7', h8, y0.1, y1.1, y2.1, y5.1, y6.1, y7.1, y8.1, ?_⟩
      have hy3 : y3 = (.lit (.string s3.data.toList), []) := x3
      rw [hx, hy3]
      rfl

set_option maxRecDepth 100000 in
theorem gap_cells {fuel : Nat} {cs : List Value} {x : DataW H × List MemPlace} (hf : DataW.trod enc Try.prog W base sp hd fuel 28 cs = some x) :
    ∃ (ga gf gt : Nat), cs = [.int .u8 ga, .int .u64 gf, .int .u64 gt] ∧ ga < 256 ∧ gf < 18446744073709551616 ∧ gt < 18446744073709551616 := by
  have hc : Try.prog.cellsOf 28 = 3 := by kernel_rfl
  have k5 : Try.prog.cellsOf 5 = 1 := by kernel_rfl
  have k22 : Try.prog.cellsOf 22 = 1 := by kernel_rfl
  obtain ⟨xs, n, _, hx, hl, hlen, hg⟩ := DataW.trod_struct Try.underlying28 hf
  rw [hc] at hl
  match cs, hl with
  | [c0, c1, c2], _ =>
    match xs, hlen with
    | [y0, y1, y2], _ =>
      have t0 : DataW.trod enc Try.prog W base sp hd n 5 (([c0, c1, c2].drop 0).take (Try.prog.cellsOf 5)) = some y0 := hg 0 _ rfl
      rw [k5] at t0
      have t1 : DataW.trod enc Try.prog W base sp hd n 22 (([c0, c1, c2].drop 1).take (Try.prog.cellsOf 22)) = some y1 := hg 1 _ rfl
      rw [k22] at t1
      have t2 : DataW.trod enc Try.prog W base sp hd n 22 (([c0, c1, c2].drop 2).take (Try.prog.cellsOf 22)) = some y2 := hg 2 _ rfl
      rw [k22] at t2
      obtain ⟨z0, e0, _, g0⟩ := DataW.trod_int Try.underlying5 t0
      obtain ⟨z1, e1, _, g1⟩ := DataW.trod_int Try.underlying22 t1
      obtain ⟨z2, e2, _, g2⟩ := DataW.trod_int Try.underlying22 t2
      obtain ⟨n0, rfl, h0⟩ := nat_of_u8 g0
      obtain ⟨n1, rfl, h1⟩ := nat_of_u64 g1
      obtain ⟨n2, rfl, h2⟩ := nat_of_u64 g2
      obtain rfl := (List.cons.inj e0).1
      obtain rfl := (List.cons.inj e1).1
      obtain rfl := (List.cons.inj e2).1
      exact ⟨n0, n1, n2, rfl, h0, h1, h2⟩

set_option maxRecDepth 100000 in
theorem open_item {r : Reach} {b0 : Nat} {v : Value} {d : DataW H} {ps : List MemPlace}
    (hval : Value.okWide Try.prog W r b0 30 v) (h0 : DataW.Trod enc Try.prog W base sp hd 30 v d ps) :
    ∃ (x : It) (A : Option Addr) (n c : Nat), v = .agg #[.bool x.g, .int .u8 x.o, .int .u64 x.q, .int .u64 x.t, .string x.r, .slice A n c, .int .u8 x.s, .int .u8 x.p, .int .i64 x.v, .int .u8 x.w, .int .u8 x.ga, .int .u64 x.gf, .int .u64 x.gt] ∧ n = x.l.length ∧ n ≤ maxLen ∧ OkA A n ∧ OkI x ∧ RdP W W.heap.size A x.l ∧
      ∃ d0 d1 d2 d3 d5 d6 d7 d8 d9 dL, d = .agg [d0, .agg [d1, d2, d3, .lit (.string x.r.data.toList), dL, d5, d6, d7, d8], d9] ∧ ((A = none ∧ dL = .nil ∧ x.l = []) ∨ ∃ spare, dL = .slice (x.l.map dP) spare) := by
  simp only [Value.okWide, Try.underlying30] at hval
  obtain ⟨cs, rfl, hsz, ts, hts, _, hrow⟩ := hval
  have hts' : Try.prog.cellTypes Try.prog.depth 30 = some [4, 5, 22, 22, 9, 23, 24, 5, 2, 5, 5, 22, 22] := by kernel_rfl
  rw [hts'] at hts
  obtain rfl := Option.some.inj hts
  have hc : Try.prog.cellsOf 30 = 13 := by kernel_rfl
  have k4 : Try.prog.cellsOf 4 = 1 := by kernel_rfl
  have k26 : Try.prog.cellsOf 26 = 9 := by kernel_rfl
  have k28 : Try.prog.cellsOf 28 = 3 := by kernel_rfl
  obtain ⟨fuel, hf⟩ := h0
  obtain ⟨xs, n, _, hx, _, hlen, hg⟩ := DataW.trod_struct Try.underlying30 hf
  obtain ⟨l⟩ := cs
  match l, hsz.trans hc with
  | [c0, c1, c2, c3, c4, c5, c6, c7, c8, c9, c10, c11, c12], _ =>
    match xs, hlen with
    | [y0, y1, y2], _ =>
      have t0 : DataW.trod enc Try.prog W base sp hd n 4 (([c0, c1, c2, c3, c4, c5, c6, c7, c8, c9, c10, c11, c12].drop 0).take (Try.prog.cellsOf 4)) = some y0 := hg 0 _ rfl
      rw [k4] at t0
      have t1 : DataW.trod enc Try.prog W base sp hd n 26 (([c0, c1, c2, c3, c4, c5, c6, c7, c8, c9, c10, c11, c12].drop 1).take (Try.prog.cellsOf 26)) = some y1 := hg 1 _ rfl
      rw [k26] at t1
      have t2 : DataW.trod enc Try.prog W base sp hd n 28 (([c0, c1, c2, c3, c4, c5, c6, c7, c8, c9, c10, c11, c12].drop 10).take (Try.prog.cellsOf 28)) = some y2 := hg 2 _ rfl
      rw [k28] at t2
      obtain ⟨b, e0, _⟩ := DataW.trod_bool Try.underlying4 t0
      obtain ⟨o, q, t, rr, L, s, p, v, w, m, z, e1, tL, b1, b2, b3, b4, b5, b6, b7, b7', b8, d0, d1, d2, d5, d6, d7, d8, hd1⟩ := event_cells t1
      obtain ⟨ga, gf, gt, e2, b9, b10, b11⟩ := gap_cells t2
      obtain rfl := (List.cons.inj e0).1
      have e1' : [c1, c2, c3, c4, c5, c6, c7, c8, c9] = _ := e1
      have e2' : [c10, c11, c12] = _ := e2
      simp only [List.cons.injEq, and_true] at e1' e2'
      obtain ⟨rfl, rfl, rfl, rfl, rfl, rfl, rfl, rfl, rfl⟩ := e1'
      obtain ⟨rfl, rfl, rfl⟩ := e2'
      obtain ⟨u, hu, hL⟩ := hrow 5 c5 rfl
      obtain rfl := Option.some.inj (hu : some 23 = some u)
      have hLv : Value.okWide Try.prog W r b0 23 c5 := by simp only [Value.okWide, Try.underlying23]; exact hL
      obtain ⟨A2, n2, c2', rfl⟩ := okWide_slice Try.underlying23 hLv
      obtain ⟨A, k, c, l, hv, hk, hkm, hA, hr, hok, hdl⟩ := open_pairs (d := z.1) (ps := z.2) hLv ⟨m, by simpa [Value.cells] using tL⟩
      obtain ⟨rfl, rfl, rfl⟩ : A2 = A ∧ n2 = k ∧ c2' = c := by injection hv with h1 h2 h3; exact ⟨h1, h2, h3⟩
      refine ⟨⟨b, o, q, t, rr, l, s, p, v, w, ga, gf, gt⟩, A2, n2, c2', rfl, hk, hkm, hA, ⟨b1, b2, b3, b4, hok, b5, b6, b7, b7', b8, b9, b10, b11⟩, hr, y0.1, d0, d1, d2, d5, d6, d7, d8, y2.1, z.1, ?_, hdl⟩
      rw [(Prod.mk.inj hx).1]
      show DataW.agg [y0.1, y1.1, y2.1] = _
      rw [hd1]

end
end Go.Proofs.Ytocdhnlffemnhaa
