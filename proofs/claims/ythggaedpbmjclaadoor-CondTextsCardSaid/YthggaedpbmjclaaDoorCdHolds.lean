/- Layer 13: whether a condition holds of a series: the program's own. -/
import Derived.Test.YthggaedpbmjclaaDoorCdPts
import Derived.Test.YthggaedpbmjclaaDoorShelf
namespace Go.Proofs.YthggaedpbmjclaaDoor
open Go.RowKit Go.Proofs

/-- a value's and a time's bounds -/
structure OkPt (p : Pt) : Prop where
  t : p.t ≤ 1099511627776
  lo : -9223372036854775808 ≤ p.v
  hi : p.v < 9223372036854775808
abbrev Pto := { p : Pt // OkPt p }
instance : Inhabited Pto := ⟨⟨⟨0, 0⟩, ⟨by decide, by decide, by decide⟩⟩⟩
def inTk (tk now : Nat) (q : Pt) : Bool := decide (now ≤ q.t + tk)
def overB (a b lim : Int) : Bool := decide (lim < a - b)
def risesB (p : Pt) (lim : Int) (tk now : Nat) (q : Pt) : Bool := inTk tk now q && overB p.v q.v lim
def fallsB (p : Pt) (lim : Int) (tk now : Nat) (q : Pt) : Bool := inTk tk now q && overB q.v p.v lim
/-- of the kinds 1 to 5 -/
def holdsK (k : Nat) (lim : Int) (tk : Nat) (L : List Pt) (p : Pt) (now : Nat) : Bool :=
  if k = 1 then decide (lim < p.v) else if k = 2 then decide (p.v < lim) else if k = 3 then decide (p.t < now) && decide (p.t + tk ≤ now)
  else if k = 4 then L.any (risesB p lim tk now) else L.any (fallsB p lim tk now)
set_option maxRecDepth 100000 in
set_option maxHeartbeats 400000 in
theorem exceeds_any (a b l : Int) (w : World) (ha : -9223372036854775808 ≤ a) (ha2 : a < 9223372036854775808) (hb : -9223372036854775808 ≤ b) (hb2 : b < 9223372036854775808) (hl : 0 ≤ l) (hl2 : l < 9223372036854775808) :
    Calls Tryd.prog 33 #[.int .i64 a, .int .i64 b, .int .i64 l] w fun e w' => e = .returned (.bool (overB a b l)) ∧ w' = w := by
  by_cases h : b < a
  · have d1 : decide (b < a) = true := decide_eq_true h
    have e1 : overB a b l = decide (IntKind.u64.wrap l < IntKind.u64.wrap (IntKind.u64.wrap a - IntKind.u64.wrap b)) := by
      unfold overB
      rw [IntKind.wrap_u64, IntKind.wrap_u64, IntKind.wrap_u64, IntKind.wrap_u64, decide_eq_decide]
      omega
    rw [e1]
    clear e1 ha ha2 hb hb2 hl hl2
    go_enter Tryd.func33, Tryd.ntmps33
    go_wp2
    go_ret
    exact ⟨by simp, rfl⟩
  · have d1 : decide (b < a) = false := decide_eq_false h
    have e1 : overB a b l = false := by
      unfold overB
      exact decide_eq_false (by omega)
    rw [e1]
    go_enter Tryd.func33, Tryd.ntmps33
    go_wp2
    go_ret
    exact ⟨rfl, rfl⟩
set_option maxRecDepth 100000 in
set_option maxHeartbeats 400000 in
theorem within_any (p : Pt) (tk now : Nat) (w : World) (hp : p.t ≤ 1099511627776) (htk : tk < 18446744073709551616) (hn : now < 18446744073709551616) :
    Calls Tryd.prog 32 #[.agg #[.int .u64 p.t, .int .i64 p.v], .int .u64 tk, .int .u64 now] w fun e w' => e = .returned (.bool (inTk tk now p)) ∧ Below w.heap.size w w' := by
  unfold inTk
  obtain ⟨t, ht⟩ : ∃ t, t = p.t := ⟨_, rfl⟩
  rw [← ht] at hp ⊢
  clear ht
  by_cases h : now ≤ t
  · have d1 : decide ((now : Int) ≤ (t : Int)) = true := decide_eq_true (by omega)
    have d2 : decide (now ≤ t) = true := decide_eq_true h
    have e1 : decide (now ≤ t + tk) = true := decide_eq_true (by omega)
    rw [e1]
    clear e1
    go_enter Tryd.func32, Tryd.ntmps32
    go_wp2
    go_ret
    exact ⟨rfl, (Below.refl _ _).alloc (Nat.le_refl _) _⟩
  · have d1 : decide ((now : Int) ≤ (t : Int)) = false := decide_eq_false (by omega)
    have d2 : decide (now ≤ t) = false := decide_eq_false h
    obtain ⟨d, hd⟩ : ∃ d, now = t + d := ⟨now - t, by omega⟩
    have e3 : (now : Int) - (t : Int) = (d : Int) := by omega
    have e4 : IntKind.u64.wrap (d : Int) = (d : Int) := by rw [IntKind.wrap_u64]; omega
    have e1 : decide (now ≤ t + tk) = decide (d ≤ tk) := by rw [decide_eq_decide]; omega
    rw [e1]
    clear e1 hd h
    go_enter Tryd.func32, Tryd.ntmps32
    go_wp2
    all_goals (
      go_ret
      exact ⟨by simp_all, (Below.refl _ _).alloc (Nat.le_refl _) _⟩)
end Go.Proofs.YthggaedpbmjclaaDoor
