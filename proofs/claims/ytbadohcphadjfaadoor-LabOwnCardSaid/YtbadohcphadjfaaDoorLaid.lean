/- The library's two listed tables in a world for the witness: both as their initialisers lay them. -/
import Derived.Test.YtbadohcphadjfaaDoorCards
import Derived.Test.YtbadohcphadjfaaDoorTie
import Derived.WalkKit
import Derived.ProofKit
import Derived.OpenShut
import Derived.Deep.DeepHandedRow
import Derived.Lib.LaidTab
import Derived.WideKeyArgs
import Derived.ChangeMaps5
import Derived.Below
namespace Go.Proofs.YtbadohcphadjfaaDoor
open Go.RowKit

theorem ownKnob_ : ownKnob Tryd.prog.godebug = none := by kernel_rfl

/-- a datum's numbers, as cells -/
def numV : DataW Unit → Value | .lit (.int k n) => .int k n | _ => undef
def rowV : DataW Unit → List Value | .agg l => l.map numV | _ => []
def firstV : Array Value := (rowV Go.Pinned.utf8First).toArray
def rangesV : Array Value := (match (Rows.laid_unicode_utf8_acceptRanges : DataW Unit) with | .agg l => l.flatMap rowV | _ => []).toArray

def relay (cs : Array Value) : Obj → Obj
  | .cells _ t frozen => .cells cs t frozen
  | o => o
/-- a world for the witness -/
noncomputable def laidWorld (os : Os) : World :=
  { World.holding Tryd.prog os ⟨#[], #[], []⟩ with heap := ((World.holding Tryd.prog os ⟨#[], #[], []⟩).heap.modify 1 (relay firstV)).modify 2 (relay rangesV) }
theorem laidOut_ : laidOutB Tryd.prog = true := by kernel_rfl

section
open Go.WideShapes Go.ChangeShapes
variable {H : Type} {enc : TypeId × Value → H}

/-- arguments read on, wherever the places that were met hold what they held -/
theorem reads_on {W W' : World} {sp : Nat → Bool} : ∀ (ts : List TypeId) (vs : List Value) (ds : List (DataW H)) (ps : List MemPlace),
    (∀ t ∈ ts, Tryd.prog.readableRec t = true ∧ t < Tryd.prog.types.size) → DataW.TrodAll enc Tryd.prog W 0 (fun _ => true) true ts vs ds ps → (∀ p ∈ ps, W.sameAt W' p) → (∀ p ∈ ps, sp p.block = true) →
    DataW.TrodAll enc Tryd.prog W' 0 sp true ts vs ds ps
  | [], vs, ds, ps, _, h, _, _ => by
    obtain ⟨rfl, rfl, rfl⟩ := trodAll_nil h
    exact trodAll_mk0
  | t :: ts, vs, ds, ps, ht, h, h1, h2 => by
    obtain ⟨v, vs', d, ds', p, q, rfl, rfl, rfl, hd, hr⟩ := trodAll_cons h
    obtain ⟨ha, hb⟩ := ht t (by simp)
    exact trodAll_cons_mk (WideElems.Trod_stays laidOut_ ha hb hd (fun x hx => h1 x (by simp [hx])) (fun x hx => h2 x (by simp [hx])))
      (reads_on ts vs' ds' q (fun t' ht' => ht t' (by simp [ht'])) hr (fun x hx => h1 x (by simp [hx])) (fun x hx => h2 x (by simp [hx])))

set_option maxRecDepth 100000 in
/-- a law's last step: it has answered true, and below its own blocks nothing has turned -/
theorem law_post {f : Func} {s : ChangeSpec} {apart fresh handsOn again : Bool} {W W' : World} {args : Array Value} {ds gs : List (DataW H)} {before : List MemPlace}
    (hpar : ∀ t ∈ f.params.toList, Tryd.prog.readableRec t = true ∧ t < Tryd.prog.types.size) (hres : f.resultTypes = #[4]) (hvars : s.vars = [])
    (hspec : s.fn H (ds ++ gs) = { results := [.lit (.bool true)], args := ds })
    (hW : DataW.Whole enc Tryd.prog f.params.toList s.vars apart W args.toList ds gs before) (hb : Below W.heap.size W W') :
    s.post enc Tryd.prog f apart fresh handsOn again W args (.bool true) W' := by
  have hlt : ∀ p ∈ before, p.block < W.heap.size := fun p hp => hW.lt p hp
  have hW' := hW
  obtain ⟨p, q, hA, hV, hpq, hz, hn⟩ := hW
  rw [hvars] at hV
  obtain ⟨rfl, rfl⟩ := trodVars_none hV
  have hpp : before = p := by rw [hpq]; simp
  have hargs : ∀ sp : Nat → Bool, (∀ x ∈ before, sp x.block = true) → DataW.TrodAll enc Tryd.prog W' 0 sp true f.params.toList args.toList ds p := fun sp hsp =>
    reads_on _ _ _ _ hpar hA (fun x hx => hb.same (hlt x (by rw [hpp]; exact hx))) (fun x hx => hsp x (by rw [hpp]; exact hx))
  have hr : ∀ (b : Nat) (sp : Nat → Bool) (hd : Bool), DataW.TrodAll enc Tryd.prog W' b sp hd f.resultTypes.toList ((Value.bool true).resultList f.resultTypes.size) [.lit (.bool true)] [] := fun b sp hd => by
    rw [hres]
    exact trodAll_mk1 (shut_bool Tryd.underlying4 _)
  have hold : ∀ x ∈ before, (fun b => decide (b < W.heap.size)) x.block = true := fun x hx => by simpa using hlt x hx
  have hv : ∀ sp : Nat → Bool, DataW.TrodVars enc Tryd.prog W' sp s.vars ([] : List (DataW H)) [] := fun sp => by rw [hvars]; rfl
  have e1 : (s.fn H (ds ++ [])).results = [.lit (.bool true)] := by rw [hspec]
  have e2 : (s.fn H (ds ++ [])).args = ds := by rw [hspec]
  have e3 : (s.fn H (ds ++ [])).vars = [] := by rw [hspec]
  refine ⟨ds, [], before, [], p, [], hW', by rw [e1]; exact hr _ _ _, by rw [e2]; exact hargs _ hold, by rw [e3]; exact hv _, World.keptBut_mono (fun x hx => ⟨hx, Or.inr (Or.inl (by rw [← hpp]; exact hx))⟩) (hb.frame (· ∈ before)), fun _ => ?_⟩
  refine ⟨?_, _, _, ([] ++ p) ++ [], ⟨[] ++ p, [], trodAll_append (hargs _ (fun _ _ => rfl)) (hr _ _ _), hv _, rfl, ?_, ?_⟩, ?_⟩
  · intro j t r h1 h2
    rw [hres] at h1 h2
    match j, h1, h2 with
    | 0, h1, h2 =>
      obtain rfl : 4 = t := by simpa using h1
      obtain rfl : Value.bool true = r := by simpa [Value.resultList] using h2
      exact okWide_bool_mk Tryd.underlying4 _
    | j + 1, h1, _ => simp at h1
  · intro b off hx
    have hin : MemPlace.cell b off ∈ before := by rw [hpp]; simpa using hx
    rw [hb.frozen (hlt _ hin)]
    exact hz b off hin
  · intro ha
    have h1 := hn ha
    rw [hpp] at h1
    simpa using h1
  · intro x hx _
    rw [hpp]
    simpa using hx
end
end Go.Proofs.YtbadohcphadjfaaDoor
