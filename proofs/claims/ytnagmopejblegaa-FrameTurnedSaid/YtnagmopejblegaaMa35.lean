/- Several texts in one: FrSmall0. -/
import Derived.Deep.DeepCutAuto
import Derived.Test.YtnagmopejblegaaMa12
import Derived.Test.YtnagmopejblegaaMa31
import Derived.Test.YtnagmopejblegaaMa34
/- Layer 5: the statements' own small frame. -/
namespace Go.Proofs.Ytnagmopejblegaa
open Go.RowKit

/-- a frame in small numbers -/
structure Sf where
  k : Nat
  f : Nat
  t : Nat
  e : Nat
  q : Nat
  c : Nat
  l : Nat
  b : Nat
  i : Sm
structure OkSf (s : Sf) : Prop where
  k : s.k < 256
  f : s.f < 256
  t : s.t < 256
  e : s.e < 65536
  q : s.q < 65536
  c : s.c < 65536
  l : s.l < 65536
  b : s.b < 18446744073709551616
  i : OkS s.i
def toN (s : Sf) : Nat := if s.f % 32 = s.t % 32 then (s.t % 32 + 1) % 32 else s.t % 32
def smallF (s : Sf) : Fr :=
  if s.k % 3 = 0 then ⟨1, s.f % 32, toN s, 1 + s.e, 1 + s.q, smallI s.i, 0, 0, 0⟩
  else if s.k % 3 = 1 then ⟨2, s.f % 32, toN s, 1 + s.e, 0, zeroI, s.c, s.b, 1 + s.l⟩
  else ⟨3, s.f % 32, toN s, 0, 0, zeroI, 0, 0, 0⟩
/-- a frame, and where its item's labels lie -/
def FrRet (x : Fr) (w : World) (e : Ending) (w' : World) : Prop :=
  ∃ A n c, e = .returned (.agg #[.int .u8 x.k, .int .u8 x.f, .int .u8 x.t, .int .u64 x.e, .int .u64 x.q, .bool x.i.g, .int .u8 x.i.o, .int .u64 x.i.q, .int .u64 x.i.t, .string x.i.r, .slice A n c, .int .u8 x.i.s, .int .u8 x.i.p, .int .i64 x.i.v, .int .u8 x.i.w, .int .u8 x.i.ga, .int .u64 x.i.gf, .int .u64 x.i.gt, .int .u64 x.c, .int .u64 x.b, .int .u64 x.l]) ∧ n = x.i.l.length ∧ w'.ownsRow w.heap.size 101 2 (.slice A n c) n (cellsP x.i.l) ∧ Below w.heap.size w w'
theorem act_put0 (a : Act) (v : Value) : a.put none v = a := rfl
theorem Try.infoF : (Try.prog.info? 44).map (·.size) = some 21 := by kernel_rfl

theorem toN_ok (s : Sf) : toN s < 32 ∧ s.f % 32 ≠ toN s := by
  unfold toN
  split <;> omega
theorem smallF_ok {s : Sf} (h : OkSf s) : OkF (smallF s) := by
  have h1 := h.e
  have h2 := h.q
  have h3 := h.c
  have h4 := h.l
  have h5 := (toN_ok s).1
  unfold smallF
  split
  · exact ⟨by show 1 < 256; omega, by show s.f % 32 < 256; omega, by show toN s < 256; omega, by show 1 + s.e < _; omega, by show 1 + s.q < _; omega, smallI_ok s.i h.i, z64, z64, z64⟩
  · split
    · exact ⟨by show 2 < 256; omega, by show s.f % 32 < 256; omega, by show toN s < 256; omega, by show 1 + s.e < _; omega, z64, OkI.zero, by show s.c < _; omega, h.b, by show 1 + s.l < _; omega⟩
    · exact ⟨by show 3 < 256; omega, by show s.f % 32 < 256; omega, by show toN s < 256; omega, z64, z64, OkI.zero, z64, z64, z64⟩
theorem smallF_right {s : Sf} (h : OkSf s) : frameN (smallF s) = 0 := by
  have h1 := h.e
  have h2 := h.q
  have h3 := h.c
  have h4 := h.l
  obtain ⟨h5, h6⟩ := toN_ok s
  have hi := smallI_right s.i h.i
  unfold smallF
  split
  · show (if (1 : Nat) ≠ 1 ∧ (1 : Nat) ≠ 2 ∧ (1 : Nat) ≠ 3 then 12 else if 31 < s.f % 32 ∨ 31 < toN s ∨ s.f % 32 = toN s then 20 else if 1099511627776 < 1 + s.e ∨ 1099511627776 < 1 + s.q ∨ 1099511627776 < 0 ∨ 1099511627776 < 0 then 6 else if 1 + s.q = 0 ∨ 1 + s.e = 0 ∨ (0 : Nat) ≠ 0 ∨ (0 : Nat) ≠ 0 ∨ (0 : Nat) ≠ 0 then 6 else itemN (smallI s.i)) = 0
    rw [if_neg (by omega), if_neg (by omega), if_neg (by omega), if_neg (by omega), hi]
  · split
    · show (if (2 : Nat) ≠ 1 ∧ (2 : Nat) ≠ 2 ∧ (2 : Nat) ≠ 3 then 12 else if 31 < s.f % 32 ∨ 31 < toN s ∨ s.f % 32 = toN s then 20 else if 1099511627776 < 1 + s.e ∨ 1099511627776 < 0 ∨ 1099511627776 < s.c ∨ 1099511627776 < 1 + s.l then 6 else if 1 + s.e = 0 ∨ 1 + s.l = 0 ∨ (0 : Nat) ≠ 0 ∨ true = false then 6 else 0) = 0
      rw [if_neg (by omega), if_neg (by omega), if_neg (by omega), if_neg (by
        rintro (h | h | h | h)
        · omega
        · omega
        · omega
        · cases h)]
    · show (if (3 : Nat) ≠ 1 ∧ (3 : Nat) ≠ 2 ∧ (3 : Nat) ≠ 3 then 12 else if 31 < s.f % 32 ∨ 31 < toN s ∨ s.f % 32 = toN s then 20 else if 1099511627776 < 0 ∨ 1099511627776 < 0 ∨ 1099511627776 < 0 ∨ 1099511627776 < 0 then 6 else if (0 : Nat) ≠ 0 ∨ (0 : Nat) ≠ 0 ∨ (0 : Nat) ≠ 0 ∨ (0 : Nat) ≠ 0 ∨ (0 : Nat) ≠ 0 ∨ true = false then 6 else 0) = 0
      rw [if_neg (by omega), if_neg (by omega), if_neg (by omega), if_neg (by
        rintro (h | h | h | h | h | h)
        · exact h rfl
        · exact h rfl
        · exact h rfl
        · exact h rfl
        · exact h rfl
        · cases h)]
theorem smallF_short {s : Sf} (h : OkSf s) : ShortF (smallF s) := by
  have hz : ShortI zeroI := ⟨by decide, fun i p hp => by cases hp⟩
  have hb : (itemB zeroI).length ≤ 1000000 := by
    have hl : leb 0 = [0] := leb_lt (by decide)
    have e : itemB zeroI = 0 :: (((([0] ++ leb 0 ++ leb 0 ++ (leb 0 ++ [])) ++ leb 0) ++ []) ++ ([0] ++ [0] ++ leb 0 ++ [0])) := rfl
    rw [e, hl]
    decide
  unfold smallF
  split
  · exact ⟨smallI_short s.i, by have := smallI_labs s.i; show (smallI s.i).l.length ≤ _; omega, by have := smallI_len s.i h.i; show (itemB (smallI s.i)).length ≤ _; omega⟩
  · split
    · exact ⟨hz, Nat.zero_le _, hb⟩
    · exact ⟨hz, Nat.zero_le _, hb⟩
end Go.Proofs.Ytnagmopejblegaa
