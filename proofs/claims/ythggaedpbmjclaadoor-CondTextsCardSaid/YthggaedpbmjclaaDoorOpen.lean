/- What comes in: bytes, numbers; a law's last step. -/
import Derived.Test.YthggaedpbmjclaaDoorByt
import Derived.Test.YthggaedpbmjclaaDoorRows
import Derived.WalkKit
import Derived.ProofKit
import Derived.OpenShut
import Derived.WideKeyArgs
import Derived.ChangeMaps5
import Derived.ChangeSlices
import Derived.Below
namespace Go.Proofs.YthggaedpbmjclaaDoor
open Go.RowKit

theorem ownKnob_ : ownKnob Tryd.prog.godebug = none := by kernel_rfl
theorem laidOut_ : laidOutB Tryd.prog = true := by kernel_rfl

section
open Go.WideShapes Go.ChangeShapes
variable {H : Type} {enc : TypeId × Value → H}

/-- arguments read on, wherever the places that were met hold what they held -/
theorem reads_on {W W' : World} {sp : Nat → Bool} : ∀ (ts : List TypeId) (vs : List Value) (ds : List (DataW H)) (ps : List MemPlace),
    (∀ t ∈ ts, Tryd.prog.readableRec t = true ∧ t < Tryd.prog.types.size) → DataW.TrodAll enc Tryd.prog W 0 (fun _ => true) true ts vs ds ps → (∀ p ∈ ps, W.sameAt W' p) → (∀ p ∈ ps, sp p.block = true) →
    DataW.TrodAll enc Tryd.prog W' 0 sp true ts vs ds ps
  | [], vs, ds, ps, _, h, _, _ => by
    obtain ⟨rfl, rfl, rfl⟩ := trodAll_nil h
    exact trodAll_mk0
  | t :: ts, vs, ds, ps, ht, h, h1, h2 => by
    obtain ⟨v, vs', d, ds', p, q, rfl, rfl, rfl, hd, hr⟩ := trodAll_cons h
    obtain ⟨ha, hb⟩ := ht t (by simp)
    exact trodAll_cons_mk (WideElems.Trod_stays laidOut_ ha hb hd (fun x hx => h1 x (by simp [hx])) (fun x hx => h2 x (by simp [hx])))
      (reads_on ts vs' ds' q (fun t' ht' => ht t' (by simp [ht'])) hr (fun x hx => h1 x (by simp [hx])) (fun x hx => h2 x (by simp [hx])))

set_option maxRecDepth 100000 in
/-- a law's last step: it has answered true, and below its own blocks nothing has turned -/
theorem law_post {f : Func} {s : ChangeSpec} {apart fresh handsOn again : Bool} {W W' : World} {args : Array Value} {ds gs : List (DataW H)} {before : List MemPlace}
    (hpar : ∀ t ∈ f.params.toList, Tryd.prog.readableRec t = true ∧ t < Tryd.prog.types.size) (hres : f.resultTypes = #[4]) (hvars : s.vars = [])
    (hspec : s.fn H (ds ++ gs) = { results := [.lit (.bool true)], args := ds })
    (hW : DataW.Whole enc Tryd.prog f.params.toList s.vars apart W args.toList ds gs before) (hb : Below W.heap.size W W') :
    s.post enc Tryd.prog f apart fresh handsOn again W args (.bool true) W' := by
  have hlt : ∀ p ∈ before, p.block < W.heap.size := fun p hp => hW.lt p hp
  have hW' := hW
  obtain ⟨p, q, hA, hV, hpq, hz, hn⟩ := hW
  rw [hvars] at hV
  obtain ⟨rfl, rfl⟩ := trodVars_none hV
  have hpp : before = p := by rw [hpq]; simp
  have hargs : ∀ sp : Nat → Bool, (∀ x ∈ before, sp x.block = true) → DataW.TrodAll enc Tryd.prog W' 0 sp true f.params.toList args.toList ds p := fun sp hsp =>
    reads_on _ _ _ _ hpar hA (fun x hx => hb.same (hlt x (by rw [hpp]; exact hx))) (fun x hx => hsp x (by rw [hpp]; exact hx))
  have hr : ∀ (b : Nat) (sp : Nat → Bool) (hd : Bool), DataW.TrodAll enc Tryd.prog W' b sp hd f.resultTypes.toList ((Value.bool true).resultList f.resultTypes.size) [.lit (.bool true)] [] := fun b sp hd => by
    rw [hres]
    exact trodAll_mk1 (shut_bool Tryd.underlying4 _)
  have hold : ∀ x ∈ before, (fun b => decide (b < W.heap.size)) x.block = true := fun x hx => by simpa using hlt x hx
  have hv : ∀ sp : Nat → Bool, DataW.TrodVars enc Tryd.prog W' sp s.vars ([] : List (DataW H)) [] := fun sp => by rw [hvars]; rfl
  have e1 : (s.fn H (ds ++ [])).results = [.lit (.bool true)] := by rw [hspec]
  have e2 : (s.fn H (ds ++ [])).args = ds := by rw [hspec]
  have e3 : (s.fn H (ds ++ [])).vars = [] := by rw [hspec]
  refine ⟨ds, [], before, [], p, [], hW', by rw [e1]; exact hr _ _ _, by rw [e2]; exact hargs _ hold, by rw [e3]; exact hv _, World.keptBut_mono (fun x hx => ⟨hx, Or.inr (Or.inl (by rw [← hpp]; exact hx))⟩) (hb.frame (· ∈ before)), fun _ => ?_⟩
  refine ⟨?_, _, _, ([] ++ p) ++ [], ⟨[] ++ p, [], trodAll_append (hargs _ (fun _ _ => rfl)) (hr _ _ _), hv _, rfl, ?_, ?_⟩, ?_⟩
  · intro j t r h1 h2
    rw [hres] at h1 h2
    match j, h1, h2 with
    | 0, h1, h2 =>
      obtain rfl : 4 = t := by simpa using h1
      obtain rfl : Value.bool true = r := by simpa [Value.resultList] using h2
      exact okWide_bool_mk Tryd.underlying4 _
    | j + 1, h1, _ => simp at h1
  · intro b off hx
    have hin : MemPlace.cell b off ∈ before := by rw [hpp]; simpa using hx
    rw [hb.frozen (hlt _ hin)]
    exact hz b off hin
  · intro ha
    have h1 := hn ha
    rw [hpp] at h1
    simpa using h1
  · intro x hx _
    rw [hpp]
    simpa using hx

theorem nat_of_u8 {z : Int} (h : (Lit.int .u8 z).wf = true) : ∃ x : Nat, z = x ∧ x < 256 := by
  have hmin : IntKind.u8.min = 0 := rfl
  have hmax : IntKind.u8.max = 255 := rfl
  simp only [Lit.wf, Bool.and_eq_true, decide_eq_true_eq, hmin, hmax] at h
  exact ⟨z.toNat, by omega, by omega⟩
theorem nat_of_u16 {z : Int} (h : (Lit.int .u16 z).wf = true) : ∃ x : Nat, z = x ∧ x < 65536 := by
  have hmin : IntKind.u16.min = 0 := rfl
  have hmax : IntKind.u16.max = 65535 := rfl
  simp only [Lit.wf, Bool.and_eq_true, decide_eq_true_eq, hmin, hmax] at h
  exact ⟨z.toNat, by omega, by omega⟩
theorem nat_of_u32 {z : Int} (h : (Lit.int .u32 z).wf = true) : ∃ x : Nat, z = x ∧ x < 4294967296 := by
  have hmin : IntKind.u32.min = 0 := rfl
  have hmax : IntKind.u32.max = 4294967295 := rfl
  simp only [Lit.wf, Bool.and_eq_true, decide_eq_true_eq, hmin, hmax] at h
  exact ⟨z.toNat, by omega, by omega⟩

theorem map_nat : ∀ (zs : List Int), (∀ z ∈ zs, (Lit.int .u8 z).wf = true) → ∃ xs : List Nat, zs = xs.map (fun x : Nat => (x : Int)) ∧ OkB xs
  | [], _ => ⟨[], rfl, fun x hx => (by cases hx)⟩
  | z :: zs, h => by
    obtain ⟨x, rfl, hx⟩ := nat_of_u8 (h z (by simp))
    obtain ⟨xs, rfl, hxs⟩ := map_nat zs fun y hy => h y (by simp [hy])
    exact ⟨x :: xs, rfl, fun y hy => by simp at hy; rcases hy with rfl | hy; exact hx; exact hxs y hy⟩

set_option maxRecDepth 100000 in
theorem open_bytes {W : World} {base : Nat} {sp : Nat → Bool} {hd : Bool} {r : Reach} {b0 : Nat} {v : Value} {d : DataW H} {ps : List MemPlace}
    (hval : Value.okWide Tryd.prog W r b0 83 v) (h0 : DataW.Trod enc Tryd.prog W base sp hd 83 v d ps) :
    ∃ (A : Option Addr) (n c : Nat) (l : List Nat), v = .slice A n c ∧ n = l.length ∧ n ≤ maxLen ∧ (A = none → n = 0) ∧ RdB W W.heap.size A l ∧ OkB l ∧ n ≤ c := by
  obtain ⟨a, n, c, rfl⟩ := okWide_slice Tryd.underlying83 hval
  have hsp : ∀ ad, a = some ad → ad.spot = none := by
    rintro ad rfl
    simp only [Value.okWide, Tryd.underlying83, Cell.okWide, Cell.ok] at hval
    exact hval.2.2.2.1
  obtain ⟨fuel, hf⟩ := h0
  rcases open_ints Tryd.underlying83 Tryd.underlying5 (by kernel_rfl) hf with ⟨hcs, hx⟩ | ⟨ad, len, cap, zs, hcs, hb, hl, hm, hlen, hx, hc, hz⟩
  · have e : a = none ∧ n = 0 ∧ c = 0 := by simpa [Value.cells] using hcs
    obtain ⟨rfl, rfl, rfl⟩ := e
    exact ⟨none, 0, 0, [], rfl, rfl, Nat.zero_le _, fun _ => rfl, fun h => absurd h (by simp), fun x h => (by cases h), Nat.le_refl _⟩
  · have e : a = some ad ∧ n = len ∧ c = cap := by simpa [Value.cells] using hcs
    obtain ⟨rfl, rfl, rfl⟩ := e
    have hspot := hsp ad rfl
    obtain ⟨b, o, s⟩ := ad
    obtain rfl : s = none := hspot
    obtain ⟨xs, rfl, hok⟩ := map_nat zs hz
    rw [List.length_map] at hlen hc
    have hls : n ≤ xs.length := by rw [hlen]; split <;> omega
    refine ⟨some ⟨b, o, none⟩, n, c, xs.take n, rfl, by simp; omega, Nat.le_trans hl hm, fun h => (by cases h), fun h => ⟨b, o, rfl, ?_, fun i x hi => ?_⟩, hok.take n, hl⟩
    · have h0 : 0 < n := by have := h; simp at this; omega
      exact World.block_lt_of_cell? _ _ (hc 0 (by omega))
    · obtain ⟨h1, h2⟩ := List.getElem?_eq_some_iff.1 hi
      rw [List.length_take] at h1
      have h3 := hc i (by omega)
      rw [Addr.add_lit] at h3
      rw [h3, ← h2, List.getElem_take, List.getD_eq_getElem?_getD, List.getElem?_eq_getElem (by simp; omega)]
      simp
end
end Go.Proofs.YthggaedpbmjclaaDoor
