/- Layer 3: pack.Writer: what it holds; each of its calls, and those of a nil one. -/
import Derived.Test.YtileaoanekphaaaPkRef
import Derived.Laws.Shifts
import Derived.Laws.BitsAllLaws
namespace Go.Proofs.Ytileaoanekphaaa
open Go.RowKit

/-- the Writer at block g: its slice v, the bytes that were put -/
structure Wtr (w : World) (g : Nat) (v : Value) (l : List Nat) : Prop where
  lt : g < w.heap.size
  c0 : w.cell? ⟨g, 0, none⟩ = some v
  own : w.ownsRow (g + 1) 5 1 v l.length (cellsB l)
  fz : w.frozen? ⟨g, 0, none⟩ = false
theorem Wtr.below {w w' : World} {g : Nat} {v : Value} {l : List Nat} (h : Wtr w g v l) (hb : Below w.heap.size w w') : Wtr w' g v l :=
  ⟨Nat.lt_of_lt_of_le h.lt hb.size, (hb.cell (p := ⟨g, 0, none⟩) h.lt).trans h.c0, ownB_below h.own hb, (hb.frozen (p := ⟨g, 0, none⟩) h.lt).trans h.fz⟩
/-- what a call of the Writer leaves -/
def Puts (w w' : World) (g : Nat) (v : Value) (l : List Nat) : Prop := ∃ v', Wtr w' g v' l ∧ Wrote w w' g v.ownBlock v'.ownBlock
theorem Wtr.ne {w : World} {g : Nat} {v : Value} {l : List Nat} (h : Wtr w g v l) : ∀ k, v.ownBlock = some k → g < k := fun k hk => (h.own.lt k hk).1
theorem Wtr.new (w : World) (t : TypeId) : Wtr (w.alloc (.cells #[.slice none 0 0] t)) w.heap.size (.slice none 0 0) [] :=
  ⟨by simp, by rw [World.cell?_alloc_at _ _ _ _ rfl]; rfl, World.ownsRow_nil _ _ _ _, World.frozen?_alloc_at _ _ _ _ rfl⟩

theorem or128 : ∀ a, a < 256 → a ||| 128 = a % 128 + 128 := by decide +kernel
theorem u8_or128 (m : Nat) : bits .or .u8 ((m : Int) % 256) 128 = ((m % 128 + 128 : Nat) : Int) := by
  have h := u8_or_nat (m % 256) 128 (by omega) (by decide)
  rw [or128 _ (by omega)] at h
  rw [show m % 128 + 128 = m % 256 % 128 + 128 by omega, ← h]
  congr 1

theorem u64_not (a : Nat) (ha : a < 18446744073709551616) : bits .xor .u64 IntKind.u64.max (a : Int) = ((18446744073709551615 - a : Nat) : Int) := by
  show IntKind.u64.wrap ((BitVec.ofInt 64 IntKind.u64.max ^^^ BitVec.ofInt 64 (a : Int)).toNat : Int) = _
  have h1 : BitVec.ofInt 64 IntKind.u64.max = BitVec.allOnes 64 := by decide
  rw [h1, BitVec.allOnes_xor, BitVec.toNat_not, ofInt_u64 a ha, IntKind.wrap_u64]
  omega
/-- what Int puts: a number's bits with the sign as the lowest one -/
theorem zigNeg {z : Int} (h1 : -9223372036854775808 ≤ z) (hz : z < 0) :
    bits .or .u64 (IntKind.u64.wrap (bits .xor .u64 IntKind.u64.max (IntKind.u64.wrap z) * 2)) 1 = ((zig z : Nat) : Int) := by
  obtain ⟨a, ha, ha2⟩ : ∃ a : Nat, z = -(a : Int) - 1 ∧ a < 9223372036854775808 := ⟨(-(z + 1)).toNat, by omega, by omega⟩
  have e1 : IntKind.u64.wrap z = ((18446744073709551615 - a : Nat) : Int) := by rw [IntKind.wrap_u64]; omega
  rw [e1, u64_not _ (by omega)]
  have e2 : IntKind.u64.wrap (((18446744073709551615 - (18446744073709551615 - a) : Nat) : Int) * 2) = ((2 * a : Nat) : Int) := by rw [IntKind.wrap_u64]; omega
  rw [e2]
  have h := u64_or_nat (2 * a) 1 (by omega) (by decide)
  have e3 : 2 * a ||| 1 = 2 * a + 1 := by
    have := Nat.two_pow_add_eq_or_of_lt (i := 1) (b := 1) (by decide) a
    simpa using this.symm
  rw [e3] at h
  have e4 : zig z = 2 * a + 1 := by unfold zig; rw [if_pos hz]; omega
  rw [e4]
  exact h
end Go.Proofs.Ytileaoanekphaaa
