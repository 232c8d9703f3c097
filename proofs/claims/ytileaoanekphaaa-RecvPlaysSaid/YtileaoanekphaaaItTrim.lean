/- Layer 4: item.Trim; the document's Above. -/
import Derived.Test.YtileaoanekphaaaItSpan
import Derived.Test.YtileaoanekphaaaItClone
import Derived.Test.YtileaoanekphaaaItGet2
namespace Go.Proofs.Ytileaoanekphaaa
open Go.RowKit

theorem results_cell_two {P : Program} {fn : Func} {p q : Tmp} {ty : TypeId} {v : Value} (h : fn.results = #[.cell p ty, .tmp q]) (tmps : Array Value) (w : World) (g : Nat) (t : TypeId) (cs : Array Value) (fr : Nat × Nat) (d : TypeDesc)
    (hp : tmps.getD p undef = .pointer (some ⟨g, 0, none⟩)) (hq : tmps.getD q undef = v) (hg : w.heap[g]? = some (.cells cs t fr))
    (hu : P.underlying ty = some d) (hd : (match d with | .struct _ | .array _ _ => true | _ => false) = true) (hi : (P.info? ty).map (·.size) = some cs.size) :
    (results fn tmps).run P w = .ok (.tuple #[.agg cs, v]) w := by
  have hp' : tmps[p]?.getD undef = .pointer (some ⟨g, 0, none⟩) := by simpa using hp
  have hq' : tmps[q]?.getD undef = v := by simpa using hq
  simp [results, h, hp', hq', asAddr, run_loadVar_row w g t ty cs fr d hg hu hd hi]

theorem RdP.nil {w : World} {B : Nat} {A : Option Addr} : RdP w B A [] := fun h => absurd h (by simp)
/-- an item and a yes or no -/
def TwoRet (y : It) (b : Bool) (w : World) (e : Ending) (w' : World) : Prop :=
  ∃ A n c, e = .returned (.tuple #[.agg #[.bool y.g, .int .u8 y.o, .int .u64 y.q, .int .u64 y.t, .string y.r, .slice A n c, .int .u8 y.s, .int .u8 y.p, .int .i64 y.v, .int .u8 y.w, .int .u8 y.ga, .int .u64 y.gf, .int .u64 y.gt], .bool b]) ∧ n = y.l.length ∧ RdP w' w'.heap.size A y.l ∧ Below w.heap.size w w'

def trimI (x : It) (N : Nat) : It := if spT x ≤ N then zeroI else if N < spF x then x else ⟨true, 0, 0, 0, ⟨#[]⟩, [], 0, 0, 0, 0, spO x, N + 1, spT x⟩
def aboveI (x : It) (N : Nat) : It := if spT x ≤ N then zeroI else if spF x ≤ N then { x with gf := N + 1 } else x
def aboveB (x : It) (N : Nat) : Bool := decide (¬ spT x ≤ N)

theorem trim_above (x : It) (N : Nat) : sameI (trimI x N) (aboveI x N) = true := by
  unfold trimI aboveI
  by_cases h1 : spT x ≤ N
  · rw [if_pos h1, if_pos h1]; exact sameI_refl _
  · rw [if_neg h1, if_neg h1]
    by_cases h2 : N < spF x
    · rw [if_pos h2, if_neg (by omega)]; exact sameI_refl _
    · rw [if_neg h2, if_pos (by omega)]
      cases hg : x.g with
      | true =>
        unfold sameI sameG spO spT
        simp [hg]
      | false =>
        unfold spT at h1
        unfold spF at h2
        rw [hg] at h1 h2
        simp at h1 h2
        omega
theorem spT_lt {x : It} (h : OkI x) : spT x < 18446744073709551616 := by
  have h1 := h.gt
  have h2 := h.q
  unfold spT
  split <;> omega

/-- an item whose labels are new, and a yes or no -/
def TwoNew (y : It) (b : Bool) (w : World) (e : Ending) (w' : World) : Prop :=
  ∃ A n c, e = .returned (.tuple #[.agg #[.bool y.g, .int .u8 y.o, .int .u64 y.q, .int .u64 y.t, .string y.r, .slice A n c, .int .u8 y.s, .int .u8 y.p, .int .i64 y.v, .int .u8 y.w, .int .u8 y.ga, .int .u64 y.gf, .int .u64 y.gt], .bool b]) ∧ n = y.l.length ∧ RdP w' w'.heap.size A y.l ∧ (A = none → n = 0) ∧ (∀ a, A = some a → 0 < n → w.heap.size ≤ a.block) ∧ Below w.heap.size w w'
theorem own_nilA {w : World} {base : Nat} {e : TypeId} {size n c : Nat} {A : Option Addr} {xs : List Value} (h : w.ownsRow base e size (.slice A n c) n xs) : A = none → n = 0 := fun hA => by
  rcases h.2 with ⟨_, h0⟩ | ⟨g, cap, cur, e1, _⟩
  · exact h0
  · injection e1 with e1
    rw [hA] at e1
    cases e1

end Go.Proofs.Ytileaoanekphaaa
