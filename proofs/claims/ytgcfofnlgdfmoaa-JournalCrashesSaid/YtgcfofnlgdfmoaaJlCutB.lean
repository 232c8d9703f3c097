/- A part of a slice of bytes: how it is cut, what it reads as. -/
import Derived.Test.YtgcfofnlgdfmoaaCrcSeal
import Derived.WalkSpells
namespace Go.Proofs.Ytgcfofnlgdfmoaa
open Go.RowKit

/-- where a part that begins at lo lies -/
def subA (A : Option Addr) (c lo : Nat) : Option Addr := if c = lo then A else A.map (·.add lo)
theorem sizeOfB (w : World) : (sizeOf (Try.prog.elem 37)).run Try.prog w = .ok 1 w := by kernel_rfl
theorem slB_lh (A : Option Addr) (n c lo hi : Nat) (l h : Int) (hl : l = lo) (hh : h = hi) (h1 : lo ≤ hi) (h2 : hi ≤ c) (w : World) :
    (Instr.sliceAt 37 (.slice A n c) (some (.int .i64 l)) (some (.int .i64 h)) none).run Try.prog w = .ok (.slice (subA A c lo) (hi - lo) (c - lo)) w := by
  subst hl; subst hh
  have hu : Try.prog.underlying 37 = some (.slice (Try.prog.elem 37)) := by kernel_rfl
  rw [run_sliceAt_slice _ _ _ _ _ _ hu, run_slice_lh _ _ _ _ _ hu .i64 .i64 (lo : Int) (hi : Int) (by omega) (by omega) (by omega), sizeOfB]
  simp [Result.andThen, sliced, subA]
theorem slB_l (A : Option Addr) (n c lo : Nat) (l : Int) (hl : l = lo) (h1 : lo ≤ n) (w : World) :
    (Instr.sliceAt 37 (.slice A n c) (some (.int .i64 l)) none none).run Try.prog w = .ok (.slice (subA A c lo) (n - lo) (c - lo)) w := by
  subst hl
  have hu : Try.prog.underlying 37 = some (.slice (Try.prog.elem 37)) := by kernel_rfl
  rw [run_sliceAt_slice _ _ _ _ _ _ hu, run_slice_l _ _ _ _ _ hu .i64 (lo : Int) (by omega) (by omega), sizeOfB]
  simp [Result.andThen, sliced, subA]
theorem slB_h (A : Option Addr) (n c hi : Nat) (h : Int) (hh : h = hi) (h2 : hi ≤ c) (w : World) :
    (Instr.sliceAt 37 (.slice A n c) none (some (.int .i64 h)) none).run Try.prog w = .ok (.slice A hi c) w := by
  subst hh
  have hu : Try.prog.underlying 37 = some (.slice (Try.prog.elem 37)) := by kernel_rfl
  rw [run_sliceAt_slice _ _ _ _ _ _ hu, run_slice_h _ _ _ _ _ hu .i64 (hi : Int) (by omega) (by omega), sizeOfB]
  cases A <;> simp [Result.andThen, sliced, Addr.add]
theorem subA_some {A : Option Addr} {c lo : Nat} (h : lo < c) {b o : Nat} (hA : A = some ⟨b, o, none⟩) : subA A c lo = some ⟨b, o + lo, none⟩ := by
  subst hA
  unfold subA
  rw [if_neg (by omega)]
  simp [Addr.add]
theorem subA_block {A : Option Addr} {c lo : Nat} {a : Addr} (h : subA A c lo = some a) : ∃ a', A = some a' ∧ a'.block = a.block := by
  unfold subA at h
  split at h
  · exact ⟨a, h, rfl⟩
  · cases A with
    | none => cases h
    | some a' =>
      injection h with h
      refine ⟨a', rfl, ?_⟩
      rw [← h]
      unfold Addr.add
      split <;> rfl
theorem subA_nil {A : Option Addr} {c lo : Nat} (h : subA A c lo = none) : A = none := by
  unfold subA at h
  split at h
  · exact h
  · cases A with
    | none => rfl
    | some a' => cases h
theorem RdB.sub {w : World} {B : Nat} {A : Option Addr} {l : List Nat} (h : RdB w B A l) {c lo : Nat} (hc : l.length ≤ c) : RdB w B (subA A c lo) (l.drop lo) := fun h0 => by
  rw [List.length_drop] at h0
  obtain ⟨b, o, e, hb, hcl⟩ := h (by omega)
  refine ⟨b, o + lo, subA_some (by omega) e, hb, fun i x hx => ?_⟩
  rw [List.getElem?_drop] at hx
  have := hcl (lo + i) x hx
  rwa [← Nat.add_assoc] at this
theorem Off.sub {A : Option Addr} {g : Nat} {l : List Nat} (h : Off A g l) {c lo : Nat} : Off (subA A c lo) g (l.drop lo) := fun h0 a ha => by
  rw [List.length_drop] at h0
  obtain ⟨a', h1, h2⟩ := subA_block ha
  have := h (by omega) a' h1
  rwa [h2] at this
theorem Off.take {A : Option Addr} {g : Nat} {l : List Nat} (h : Off A g l) (k : Nat) : Off A g (l.take k) := fun h0 a ha => h (by rw [List.length_take] at h0; omega) a ha
end Go.Proofs.Ytgcfofnlgdfmoaa
