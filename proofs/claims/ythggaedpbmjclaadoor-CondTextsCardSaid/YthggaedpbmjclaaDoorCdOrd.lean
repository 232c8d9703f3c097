/- Layer 13: CondOrder in numbers: what a series holds behind some calls of Add; a slice of uint64 that comes in. -/
import Derived.Test.YthggaedpbmjclaaDoorCdAwk
import Derived.Laws.StructEq
namespace Go.Proofs.YthggaedpbmjclaaDoor
open Go.RowKit Go.Proofs

theorem run_eqlPt (a c : Nat) (b d : Int) (w : World) : (binOp .eql 51 (.agg #[.int .u64 a, .int .i64 b]) (.agg #[.int .u64 c, .int .i64 d])).run Tryd.prog w = .ok (.bool (decide (a = c ∧ b = d))) w := by
  have u5 := Tryd.underlying24
  have u22 := Tryd.underlying2
  have hS : Tryd.prog.underlying 51 = some (.struct (Tryd.prog.fieldsOf 51)) := by kernel_rfl
  have hp : Tryd.prog.stoodInHeld 51 = false := by kernel_rfl
  rw [run_eql_struct, show (10000 : Nat) = 9999 + 1 from rfl, run_equalIn_struct w 9999 51 _ _ hS hp]
  simp only [Program.fieldsOf, Tryd.underlying51]
  go_simp
  have e1 : ((a : Int) = (c : Int)) = (a = c) := propext (by omega)
  simp only [e1]
  by_cases h1 : a = c <;> by_cases h2 : b = d <;> simp [h1, h2]
/-- The slice at A reads as these numbers; it lies below block B. -/
def RdU (w : World) (B : Nat) (A : Option Addr) (l : List Nat) : Prop :=
  0 < l.length → ∃ b o, A = some ⟨b, o, none⟩ ∧ b < B ∧ ∀ (i x : Nat), l[i]? = some x → w.cell? ⟨b, o + i, none⟩ = some (.int .u64 x)
theorem RdU.at_ {w w' : World} {A : Option Addr} {l : List Nat} {k : Nat} (h : RdU w w.heap.size A l) (hb : Below w.heap.size w w') (hk : k < l.length) :
    ∃ b o x, A = some ⟨b, o, none⟩ ∧ l[k]? = some x ∧ w'.cell? ⟨b, o + k, none⟩ = some (.int .u64 x) := by
  obtain ⟨b, o, e, hlt, hc⟩ := h (by omega)
  have hx : l[k]? = some l[k] := List.getElem?_eq_getElem hk
  exact ⟨b, o, l[k], e, hx, (hb.cell (p := ⟨b, o + k, none⟩) hlt).trans (hc k _ hx)⟩
/-- behind some calls of Add: n were taken, the last one at time t -/
structure OrdI (w wx : World) (s : Nat) (v : Int) (t n : Nat) : Prop where
  ex : ∃ L, SerAt wx s L ∧ L.length = min n 32 ∧ (n = 0 → L = []) ∧ (0 < n → L.getLast? = some ⟨t, v⟩)
  bl : Below w.heap.size w wx
  lo : w.heap.size ≤ s
  tm : t ≤ 1099511627776
section
variable {w wx : World} {s t n x : Nat} {v : Int}
theorem OrdI.below (h : OrdI w wx s v t n) {w' : World} (hb : Below wx.heap.size wx w') : OrdI w w' s v t n := by
  obtain ⟨L, h1, h2⟩ := h.ex
  exact ⟨⟨L, h1.below hb, h2⟩, h.bl.trans (hb.mono h.bl.size), h.lo, h.tm⟩
def AddPost (w : World) (s : Nat) (v : Int) (t n x : Nat) (e : Ending) (w' : World) : Prop :=
  (1099511627776 < x ∧ e = .returned (.int .i64 6) ∧ OrdI w w' s v t n) ∨ (x ≤ 1099511627776 ∧ 0 < n ∧ x < t ∧ e = .returned (.int .i64 9) ∧ OrdI w w' s v t n) ∨
  (x ≤ 1099511627776 ∧ (0 < n → ¬ x < t) ∧ e = .returned (.int .i64 0) ∧ OrdI w w' s v x (n + 1))
theorem ord_add (h : OrdI w wx s v t n) : Calls Tryd.prog 18 #[.pointer (some ⟨s, 0, none⟩), .int .u64 x, .int .i64 v] wx (AddPost w s v t n x) := by
  obtain ⟨L, h1, h2, h3, h4⟩ := h.ex
  by_cases hx : 1099511627776 < x
  · refine (cadd_range wx hx).mono ?_
    rintro e w' ⟨rfl, rfl⟩
    exact .inl ⟨hx, rfl, h⟩
  · by_cases ho : 0 < n ∧ x < t
    · refine (cadd_order wx h1 (h4 ho.1) ho.2 (by omega)).mono ?_
      rintro e w' ⟨rfl, hb⟩
      exact .inr (.inl ⟨by omega, ho.1, ho.2, rfl, h.below hb⟩)
    · refine (cadd_ok wx h1 (fun p hp => ?_) (by omega)).mono ?_
      · rcases Nat.eq_zero_or_pos n with h0 | h0
        · rw [h3 h0] at hp; cases hp
        · rw [h4 h0] at hp
          injection hp with hp
          subst hp
          show t ≤ x
          have : ¬ x < t := fun hh => ho ⟨h0, hh⟩
          omega
      · rintro e w' ⟨rfl, hs, hk⟩
        refine .inr (.inr ⟨by omega, fun h0 hh => ho ⟨h0, hh⟩, rfl, ⟨⟨_, hs, ?_, fun h => by omega, fun _ => addP_last _ _⟩, hk.below h.bl h.bl.size h.lo, h.lo, by omega⟩⟩)
        unfold addP
        split <;> simp <;> omega
theorem ord_last (h : OrdI w wx s v t n) : Calls Tryd.prog 29 #[.pointer (some ⟨s, 0, none⟩)] wx fun e w' => (n = 0 ∧ e = .returned (.tuple #[.agg #[.int .u64 0, .int .i64 0], .bool false]) ∨ 0 < n ∧ e = .returned (.tuple #[.agg #[.int .u64 t, .int .i64 v], .bool true])) ∧ Below w.heap.size w w' := by
  obtain ⟨L, h1, h2, h3, h4⟩ := h.ex
  rcases Nat.eq_zero_or_pos n with h0 | h0
  · obtain rfl := h3 h0
    refine (clast_none wx h1).mono ?_
    rintro e w' ⟨rfl, hb⟩
    exact ⟨.inl ⟨h0, rfl⟩, h.bl.trans (hb.mono h.bl.size)⟩
  · refine (clast_some wx h1 (h4 h0)).mono ?_
    rintro e w' ⟨rfl, hb⟩
    exact ⟨.inr ⟨h0, rfl⟩, h.bl.trans (hb.mono h.bl.size)⟩
end
end Go.Proofs.YthggaedpbmjclaaDoor
