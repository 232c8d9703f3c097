/- Several texts in one: ItSmallAll, Pairs, Open. -/
import Derived.Deep.SlicePairs
import Derived.Test.YtgcfofnlgdfmoaaRows
import Derived.WalkKit
import Derived.ProofKit
import Derived.OpenShut
import Derived.WideKeyArgs
import Derived.ChangeMaps5
import Derived.ChangeSlices
import Derived.Below
import Derived.Test.YtgcfofnlgdfmoaaMf3
import Derived.Test.YtgcfofnlgdfmoaaMf4
import Derived.Test.YtgcfofnlgdfmoaaMf6
import Derived.Test.YtgcfofnlgdfmoaaMf8
/- Layer 4: the statements' own small item, whichever numbers. -/
namespace Go.Proofs.Ytgcfofnlgdfmoaa
open Go.RowKit

set_option maxRecDepth 100000 in
set_option maxHeartbeats 1000000 in
theorem smallGap_any (s : Sm) (hs : OkS s) (w : World) :
    Calls Try.prog 33 #[.agg #[.bool true, .int .u8 s.o, .int .u8 s.p, .int .u8 s.w, .int .u16 s.q, .int .u16 s.m, .int .u16 s.t, .int .u8 s.r, .int .u8 s.l, .int .u8 s.v, .bool s.s]] w fun e w' =>
      e = .returned (.agg #[.bool true, .int .u8 0, .int .u64 0, .int .u64 0, .string ⟨#[]⟩, .slice none 0 0, .int .u8 0, .int .u8 0, .int .i64 0, .int .u8 0, .int .u8 ((s.o : Int) % 32), .int .u64 (1 + (s.q : Int)), .int .u64 (1 + (s.q : Int) + (s.m : Int))]) ∧ Below w.heap.size w w' := by
  have q1 : (s.q : Int) < 65536 := by have := hs.q; omega
  have q2 : (s.m : Int) < 65536 := by have := hs.m; omega
  have hb0 : Below w.heap.size w ((w.alloc (.cells #[.bool true, .int .u8 s.o, .int .u8 s.p, .int .u8 s.w, .int .u16 s.q, .int .u16 s.m, .int .u16 s.t, .int .u8 s.r, .int .u8 s.l, .int .u8 s.v, .bool s.s] 51)).alloc (.cells #[.bool false, .int .u8 0, .int .u64 0, .int .u64 0, .string ⟨#[]⟩, .slice none 0 0, .int .u8 0, .int .u8 0, .int .i64 0, .int .u8 0, .int .u8 0, .int .u64 0, .int .u64 0] 60)) := ((Below.refl _ _).alloc (Nat.le_refl _) _).alloc (by simp) _
  have hre := heap_alloc2_new w (.cells #[.bool true, .int .u8 s.o, .int .u8 s.p, .int .u8 s.w, .int .u16 s.q, .int .u16 s.m, .int .u16 s.t, .int .u8 s.r, .int .u8 s.l, .int .u8 s.v, .bool s.s] 51) (.cells #[.bool false, .int .u8 0, .int .u64 0, .int .u64 0, .string ⟨#[]⟩, .slice none 0 0, .int .u8 0, .int .u8 0, .int .i64 0, .int .u8 0, .int .u8 0, .int .u64 0, .int .u64 0] 60)
  have HB := Lib.hid hb0
  have HR := Lib.hid hre
  clear hb0 hre
  go_enter Try.func33, Try.ntmps33
  go_wp2_with fail
  refine (gap_any _ _ _ _).mono ?_
  rintro e w1 ⟨rfl, hb1⟩
  have HR1 := Lib.hid ((hb1.block (w.heap.size + 1) (by simp)).trans HR.out)
  have HB1 := Lib.hid (HB.out.trans (hb1.mono HB.out.size))
  clear hb1
  go_wp2_with (refine wpList_store_row rfl _ _ _ rfl (w.heap.size + 1) _ rfl rfl _ _ HR1.out Try.infoI rfl (by simp [Value.oneCell']) ?_)
  refine bodyPost_ret (v := .agg #[.bool true, .int .u8 0, .int .u64 0, .int .u64 0, .string ⟨#[]⟩, .slice none 0 0, .int .u8 0, .int .u8 0, .int .i64 0, .int .u8 0, .int .u8 ((s.o : Int) % 32), .int .u64 (1 + (s.q : Int)), .int .u64 (1 + (s.q : Int) + (s.m : Int))]) ?_ rfl ⟨rfl, below_setRow HB1.out (by omega) _⟩
  exact results_cell_row rfl _ _ (w.heap.size + 1) _ _ _ _ rfl (setRow_heap _ _ _ _ _ _ HR1.out) Try.underlying60 rfl (by kernel_rfl)

/-- an item, and where its labels lie -/
def ItRet (x : It) (w : World) (e : Ending) (w' : World) : Prop :=
  ∃ A n c, e = .returned (.agg #[.bool x.g, .int .u8 x.o, .int .u64 x.q, .int .u64 x.t, .string x.r, .slice A n c, .int .u8 x.s, .int .u8 x.p, .int .i64 x.v, .int .u8 x.w, .int .u8 x.ga, .int .u64 x.gf, .int .u64 x.gt]) ∧ n = x.l.length ∧ w'.ownsRow w.heap.size 151 2 (.slice A n c) n (cellsP x.l) ∧ Below w.heap.size w w'

theorem smallItem_any (s : Sm) (hs : OkS s) (w : World) :
    Calls Try.prog 33 #[.agg #[.bool s.g, .int .u8 s.o, .int .u8 s.p, .int .u8 s.w, .int .u16 s.q, .int .u16 s.m, .int .u16 s.t, .int .u8 s.r, .int .u8 s.l, .int .u8 s.v, .bool s.s]] w (ItRet (smallI s) w) := by
  obtain ⟨b, hb⟩ : ∃ b, s.g = b := ⟨_, rfl⟩
  rw [hb]
  cases b with
  | true =>
    refine (smallGap_any s hs w).mono ?_
    rintro e w' ⟨rfl, hb'⟩
    have hI : smallI s = ⟨true, 0, 0, 0, ⟨#[]⟩, [], 0, 0, 0, 0, s.o % 32, 1 + s.q, 1 + s.q + s.m⟩ := if_pos hb
    refine ⟨none, 0, 0, ?_, by rw [hI]; rfl, by rw [hI]; exact World.ownsRow_nil _ _ _ _, hb'⟩
    rw [hI]
    push_cast
    rfl
  | false =>
    refine (smallEv_any s hs s.s rfl w).mono ?_
    rintro e w' ⟨A, c, rfl, ho, hb'⟩
    have hI : smallI s = ⟨false, s.o % 32, 1 + s.q, s.t, if s.w % 8 = 7 then ownX else ruleS s.r, labsS s (s.l % 4), if s.s then 2 else 0, s.p % 8, (s.v : Int) - 100, if s.w % 8 = 7 then 1 + s.w / 8 % 2 else 0, 0, 0, 0⟩ := if_neg (by rw [hb]; decide)
    refine ⟨A, s.l % 4, c, ?_, by rw [hI]; exact (labsS_length s _).symm, by rw [hI]; exact ho, hb'⟩
    rw [hI]
    have e1 : (((if s.s = true then 2 else 0 : Nat)) : Int) = if s.s = true then 2 else 0 := by split <;> rfl
    have e2 : (((if s.w % 8 = 7 then 1 + s.w / 8 % 2 else 0 : Nat)) : Int) = if s.w % 8 = 7 then 1 + (s.w : Int) / 8 % 2 else 0 := by split <;> simp
    simp only [e1, e2]
    push_cast
    rfl
end Go.Proofs.Ytgcfofnlgdfmoaa
/- Layer 1: a list of pairs that comes in: how it is read, and how it lies. -/
namespace Go.Proofs.Ytgcfofnlgdfmoaa
open Go.RowKit Go.ChangeShapes Go.WideShapes

/-- a pair as it is read -/
def dP {H : Type} (p : Pr) : DataW H := .agg [.lit (.string p.1.data.toList), .lit (.string p.2.data.toList)]

set_option maxRecDepth 100000 in
theorem open_pairs {H : Type} {enc : TypeId × Value → H} {W : World} {base : Nat} {sp : Nat → Bool} {hd : Bool} {r : Reach} {b0 : Nat} {v : Value} {d : DataW H} {ps : List MemPlace}
    (hval : Value.okWide Try.prog W r b0 53 v) (h0 : DataW.Trod enc Try.prog W base sp hd 53 v d ps) :
    ∃ (A : Option Addr) (n c : Nat) (l : List Pr), v = .slice A n c ∧ n = l.length ∧ n ≤ maxLen ∧ OkA A n ∧ RdP W W.heap.size A l ∧ OkP l ∧ ((A = none ∧ d = .nil ∧ l = []) ∨ ∃ spare, d = .slice (l.map dP) spare) := by
  obtain ⟨a, n, c, rfl⟩ := okWide_slice Try.underlying53 hval
  have hsp : ∀ ad, a = some ad → ad.spot = none := by
    rintro ad rfl
    simp only [Value.okWide, Try.underlying53, Cell.okWide, Cell.ok] at hval
    exact hval.2.2.2.1
  obtain ⟨fuel, hf⟩ := h0
  rcases Go.Deep.open_slice_pairs Try.underlying53 Try.underlying151 (by kernel_rfl) rfl rfl (by kernel_rfl) (by kernel_rfl) hf with ⟨hcs, hx⟩ | ⟨ad, len, cap, m, k, V0, V1, D0, D1, P0, P1, hcs, hb, hl, hm, hmm, hx, hi⟩
  · have e : a = none ∧ n = 0 ∧ c = 0 := by simpa [Value.cells] using hcs
    obtain ⟨rfl, rfl, rfl⟩ := e
    exact ⟨none, 0, 0, [], rfl, rfl, Nat.zero_le _, ⟨fun _ => rfl, fun _ h => (by cases h)⟩, RdP.none_, fun i p h => (by simp at h), .inl ⟨rfl, (Prod.mk.inj hx).1, rfl⟩⟩
  · have e : a = some ad ∧ n = len ∧ c = cap := by simpa [Value.cells] using hcs
    obtain ⟨rfl, rfl, rfl⟩ := e
    have hspot := hsp ad rfl
    obtain ⟨b, o, s⟩ := ad
    obtain rfl : s = none := hspot
    have hlm : n ≤ m := by rw [hmm]; split <;> omega
    have each : ∀ i, i < n → ∃ p : Pr, V0 i = .string p.1 ∧ V1 i = .string p.2 ∧ D0 i = .lit (.string p.1.data.toList) ∧ D1 i = .lit (.string p.2.data.toList) ∧ p.1.size ≤ maxLen ∧ p.2.size ≤ maxLen := fun i h => by
      obtain ⟨_, _, t0, t1⟩ := hi i (by omega)
      obtain ⟨s0, e0, x0, z0⟩ := DataW.trod_string Try.underlying9 t0
      obtain ⟨s1, e1, x1, z1⟩ := DataW.trod_string Try.underlying9 t1
      exact ⟨(s0, s1), (List.cons.inj e0).1, (List.cons.inj e1).1, (Prod.mk.inj x0).1, (Prod.mk.inj x1).1, z0, z1⟩
    have pick : ∃ f : Nat → Pr, ∀ i, i < n → V0 i = .string (f i).1 ∧ V1 i = .string (f i).2 ∧ D0 i = .lit (.string (f i).1.data.toList) ∧ D1 i = .lit (.string (f i).2.data.toList) ∧ (f i).1.size ≤ maxLen ∧ (f i).2.size ≤ maxLen :=
      ⟨fun i => if h : i < n then (each i h).choose else (⟨#[]⟩, ⟨#[]⟩), fun i h => by simp only [dif_pos h]; exact (each i h).choose_spec⟩
    obtain ⟨f, hf'⟩ := pick
    have hget : ∀ (i : Nat) (p : Pr), ((List.range n).map f)[i]? = some p → i < n ∧ p = f i := fun i p hp => by
      rw [List.getElem?_map] at hp
      obtain ⟨j, hj, rfl⟩ := Option.map_eq_some_iff.1 hp
      obtain ⟨h1, h2⟩ := List.getElem?_eq_some_iff.1 hj
      rw [List.length_range] at h1
      rw [List.getElem_range] at h2
      exact ⟨h1, by rw [h2]⟩
    refine ⟨some ⟨b, o, none⟩, n, c, (List.range n).map f, rfl, by simp, Nat.le_trans hl hm, ⟨fun h => (by cases h), fun a h => (by cases h; exact ⟨b, o, rfl⟩)⟩, fun h0 => ⟨b, o, rfl, ?_, fun i p hp => ?_⟩, fun i p hp => ?_, .inr ⟨(List.range (m - n)).map fun j => .agg [D0 (n + j), D1 (n + j)], ?_⟩⟩
    · have h0' : 0 < n := by simpa using h0
      exact World.block_lt_of_cell? _ _ ((hi 0 (by omega)).1)
    · obtain ⟨hin, rfl⟩ := hget i p hp
      obtain ⟨c0, c1, _, _⟩ := hi i (by omega)
      obtain ⟨v0, v1, _, _⟩ := hf' i hin
      rw [Addr.add_lit] at c0 c1
      rw [v0] at c0; rw [v1] at c1
      exact ⟨c0, by rw [Nat.add_assoc]; exact c1⟩
    · obtain ⟨hin, rfl⟩ := hget i p hp
      exact (hf' i hin).2.2.2.2
    · have h1 := (Prod.mk.inj hx).1
      rw [h1, List.map_map]
      congr 1
      refine List.map_congr_left fun i hi' => ?_
      obtain ⟨_, _, e0, e1, _⟩ := hf' i (List.mem_range.1 hi')
      rw [e0, e1]
      rfl
end Go.Proofs.Ytgcfofnlgdfmoaa
/- What comes in: bytes, numbers; a law's last step. -/
namespace Go.Proofs.Ytgcfofnlgdfmoaa
open Go.RowKit

theorem ownKnob_ : ownKnob Try.prog.godebug = none := by kernel_rfl
theorem laidOut_ : laidOutB Try.prog = true := by kernel_rfl

section
open Go.WideShapes Go.ChangeShapes
variable {H : Type} {enc : TypeId × Value → H}

/-- arguments read on, wherever the places that were met hold what they held -/
theorem reads_on {W W' : World} {sp : Nat → Bool} : ∀ (ts : List TypeId) (vs : List Value) (ds : List (DataW H)) (ps : List MemPlace),
    (∀ t ∈ ts, Try.prog.readableRec t = true ∧ t < Try.prog.types.size) → DataW.TrodAll enc Try.prog W 0 (fun _ => true) true ts vs ds ps → (∀ p ∈ ps, W.sameAt W' p) → (∀ p ∈ ps, sp p.block = true) →
    DataW.TrodAll enc Try.prog W' 0 sp true ts vs ds ps
  | [], vs, ds, ps, _, h, _, _ => by
    obtain ⟨rfl, rfl, rfl⟩ := trodAll_nil h
    exact trodAll_mk0
  | t :: ts, vs, ds, ps, ht, h, h1, h2 => by
    obtain ⟨v, vs', d, ds', p, q, rfl, rfl, rfl, hd, hr⟩ := trodAll_cons h
    obtain ⟨ha, hb⟩ := ht t (by simp)
    exact trodAll_cons_mk (WideElems.Trod_stays laidOut_ ha hb hd (fun x hx => h1 x (by simp [hx])) (fun x hx => h2 x (by simp [hx])))
      (reads_on ts vs' ds' q (fun t' ht' => ht t' (by simp [ht'])) hr (fun x hx => h1 x (by simp [hx])) (fun x hx => h2 x (by simp [hx])))

set_option maxRecDepth 100000 in
/-- a law's last step: it has answered true, and below its own blocks nothing has turned -/
theorem law_post {f : Func} {s : ChangeSpec} {apart fresh handsOn again : Bool} {W W' : World} {args : Array Value} {ds gs : List (DataW H)} {before : List MemPlace}
    (hpar : ∀ t ∈ f.params.toList, Try.prog.readableRec t = true ∧ t < Try.prog.types.size) (hres : f.resultTypes = #[4]) (hvars : s.vars = [])
    (hspec : s.fn H (ds ++ gs) = { results := [.lit (.bool true)], args := ds })
    (hW : DataW.Whole enc Try.prog f.params.toList s.vars apart W args.toList ds gs before) (hb : Below W.heap.size W W') :
    s.post enc Try.prog f apart fresh handsOn again W args (.bool true) W' := by
  have hlt : ∀ p ∈ before, p.block < W.heap.size := fun p hp => hW.lt p hp
  have hW' := hW
  obtain ⟨p, q, hA, hV, hpq, hz, hn⟩ := hW
  rw [hvars] at hV
  obtain ⟨rfl, rfl⟩ := trodVars_none hV
  have hpp : before = p := by rw [hpq]; simp
  have hargs : ∀ sp : Nat → Bool, (∀ x ∈ before, sp x.block = true) → DataW.TrodAll enc Try.prog W' 0 sp true f.params.toList args.toList ds p := fun sp hsp =>
    reads_on _ _ _ _ hpar hA (fun x hx => hb.same (hlt x (by rw [hpp]; exact hx))) (fun x hx => hsp x (by rw [hpp]; exact hx))
  have hr : ∀ (b : Nat) (sp : Nat → Bool) (hd : Bool), DataW.TrodAll enc Try.prog W' b sp hd f.resultTypes.toList ((Value.bool true).resultList f.resultTypes.size) [.lit (.bool true)] [] := fun b sp hd => by
    rw [hres]
    exact trodAll_mk1 (shut_bool Try.underlying4 _)
  have hold : ∀ x ∈ before, (fun b => decide (b < W.heap.size)) x.block = true := fun x hx => by simpa using hlt x hx
  have hv : ∀ sp : Nat → Bool, DataW.TrodVars enc Try.prog W' sp s.vars ([] : List (DataW H)) [] := fun sp => by rw [hvars]; rfl
  have e1 : (s.fn H (ds ++ [])).results = [.lit (.bool true)] := by rw [hspec]
  have e2 : (s.fn H (ds ++ [])).args = ds := by rw [hspec]
  have e3 : (s.fn H (ds ++ [])).vars = [] := by rw [hspec]
  refine ⟨ds, [], before, [], p, [], hW', by rw [e1]; exact hr _ _ _, by rw [e2]; exact hargs _ hold, by rw [e3]; exact hv _, World.keptBut_mono (fun x hx => ⟨hx, Or.inr (Or.inl (by rw [← hpp]; exact hx))⟩) (hb.frame (· ∈ before)), fun _ => ?_⟩
  refine ⟨?_, _, _, ([] ++ p) ++ [], ⟨[] ++ p, [], trodAll_append (hargs _ (fun _ _ => rfl)) (hr _ _ _), hv _, rfl, ?_, ?_⟩, ?_⟩
  · intro j t r h1 h2
    rw [hres] at h1 h2
    match j, h1, h2 with
    | 0, h1, h2 =>
      obtain rfl : 4 = t := by simpa using h1
      obtain rfl : Value.bool true = r := by simpa [Value.resultList] using h2
      exact okWide_bool_mk Try.underlying4 _
    | j + 1, h1, _ => simp at h1
  · intro b off hx
    have hin : MemPlace.cell b off ∈ before := by rw [hpp]; simpa using hx
    rw [hb.frozen (hlt _ hin)]
    exact hz b off hin
  · intro ha
    have h1 := hn ha
    rw [hpp] at h1
    simpa using h1
  · intro x hx _
    rw [hpp]
    simpa using hx

theorem nat_of_u8 {z : Int} (h : (Lit.int .u8 z).wf = true) : ∃ x : Nat, z = x ∧ x < 256 := by
  have hmin : IntKind.u8.min = 0 := rfl
  have hmax : IntKind.u8.max = 255 := rfl
  simp only [Lit.wf, Bool.and_eq_true, decide_eq_true_eq, hmin, hmax] at h
  exact ⟨z.toNat, by omega, by omega⟩
theorem nat_of_u16 {z : Int} (h : (Lit.int .u16 z).wf = true) : ∃ x : Nat, z = x ∧ x < 65536 := by
  have hmin : IntKind.u16.min = 0 := rfl
  have hmax : IntKind.u16.max = 65535 := rfl
  simp only [Lit.wf, Bool.and_eq_true, decide_eq_true_eq, hmin, hmax] at h
  exact ⟨z.toNat, by omega, by omega⟩
theorem nat_of_u32 {z : Int} (h : (Lit.int .u32 z).wf = true) : ∃ x : Nat, z = x ∧ x < 4294967296 := by
  have hmin : IntKind.u32.min = 0 := rfl
  have hmax : IntKind.u32.max = 4294967295 := rfl
  simp only [Lit.wf, Bool.and_eq_true, decide_eq_true_eq, hmin, hmax] at h
  exact ⟨z.toNat, by omega, by omega⟩

theorem map_nat : ∀ (zs : List Int), (∀ z ∈ zs, (Lit.int .u8 z).wf = true) → ∃ xs : List Nat, zs = xs.map (fun x : Nat => (x : Int)) ∧ OkB xs
  | [], _ => ⟨[], rfl, fun x hx => (by cases hx)⟩
  | z :: zs, h => by
    obtain ⟨x, rfl, hx⟩ := nat_of_u8 (h z (by simp))
    obtain ⟨xs, rfl, hxs⟩ := map_nat zs fun y hy => h y (by simp [hy])
    exact ⟨x :: xs, rfl, fun y hy => by simp at hy; rcases hy with rfl | hy; exact hx; exact hxs y hy⟩

set_option maxRecDepth 100000 in
theorem open_bytes {W : World} {base : Nat} {sp : Nat → Bool} {hd : Bool} {r : Reach} {b0 : Nat} {v : Value} {d : DataW H} {ps : List MemPlace}
    (hval : Value.okWide Try.prog W r b0 37 v) (h0 : DataW.Trod enc Try.prog W base sp hd 37 v d ps) :
    ∃ (A : Option Addr) (n c : Nat) (l : List Nat), v = .slice A n c ∧ n = l.length ∧ n ≤ maxLen ∧ (A = none → n = 0) ∧ RdB W W.heap.size A l ∧ OkB l ∧ n ≤ c := by
  obtain ⟨a, n, c, rfl⟩ := okWide_slice Try.underlying37 hval
  have hsp : ∀ ad, a = some ad → ad.spot = none := by
    rintro ad rfl
    simp only [Value.okWide, Try.underlying37, Cell.okWide, Cell.ok] at hval
    exact hval.2.2.2.1
  obtain ⟨fuel, hf⟩ := h0
  rcases open_ints Try.underlying37 Try.underlying5 (by kernel_rfl) hf with ⟨hcs, hx⟩ | ⟨ad, len, cap, zs, hcs, hb, hl, hm, hlen, hx, hc, hz⟩
  · have e : a = none ∧ n = 0 ∧ c = 0 := by simpa [Value.cells] using hcs
    obtain ⟨rfl, rfl, rfl⟩ := e
    exact ⟨none, 0, 0, [], rfl, rfl, Nat.zero_le _, fun _ => rfl, fun h => absurd h (by simp), fun x h => (by cases h), Nat.le_refl _⟩
  · have e : a = some ad ∧ n = len ∧ c = cap := by simpa [Value.cells] using hcs
    obtain ⟨rfl, rfl, rfl⟩ := e
    have hspot := hsp ad rfl
    obtain ⟨b, o, s⟩ := ad
    obtain rfl : s = none := hspot
    obtain ⟨xs, rfl, hok⟩ := map_nat zs hz
    rw [List.length_map] at hlen hc
    have hls : n ≤ xs.length := by rw [hlen]; split <;> omega
    refine ⟨some ⟨b, o, none⟩, n, c, xs.take n, rfl, by simp; omega, Nat.le_trans hl hm, fun h => (by cases h), fun h => ⟨b, o, rfl, ?_, fun i x hi => ?_⟩, hok.take n, hl⟩
    · have h0 : 0 < n := by have := h; simp at this; omega
      exact World.block_lt_of_cell? _ _ (hc 0 (by omega))
    · obtain ⟨h1, h2⟩ := List.getElem?_eq_some_iff.1 hi
      rw [List.length_take] at h1
      have h3 := hc i (by omega)
      rw [Addr.add_lit] at h3
      rw [h3, ← h2, List.getElem_take, List.getD_eq_getElem?_getD, List.getElem?_eq_getElem (by simp; omega)]
      simp
end
end Go.Proofs.Ytgcfofnlgdfmoaa
