/- Layer 4: a slice of small numbers that comes in: how it reads. -/
import Derived.Test.YtkkilfoncdbciaaItOpen
import Derived.Deep.MidRow
import Derived.Deep.CutRange
namespace Go.Proofs.Ytkkilfoncdbciaa
open Go.RowKit Go.ChangeShapes Go.WideShapes

def smC (s : Sm) : List Value := [.bool s.g, .int .u8 s.o, .int .u8 s.p, .int .u8 s.w, .int .u16 s.q, .int .u16 s.m, .int .u16 s.t, .int .u8 s.r, .int .u8 s.l, .int .u8 s.v, .bool s.s]
/-- a slice of small numbers reads as a list -/
def RdM (w : World) (B : Nat) (A : Option Addr) (l : List Sm) : Prop := 0 < l.length → ∃ b o, A = some ⟨b, o, none⟩ ∧ b < B ∧ ∀ (k : Nat) (s : Sm), l[k]? = some s → w.rangeAt b (o + k * 11) (smC s)
theorem range_keep {w w' : World} {b o : Nat} {cs : List Value} (h : w.rangeAt b o cs) (hb : w'.heap[b]? = w.heap[b]?) : w'.rangeAt b o cs := fun j v hv => (World.cell?_of_block hb).trans (h j v hv)
theorem RdM.at_ {w : World} {B : Nat} {A : Option Addr} {l : List Sm} (h : RdM w B A l) {k : Nat} (hk : k < l.length) : ∃ b o s, A = some ⟨b, o, none⟩ ∧ b < B ∧ l[k]? = some s ∧ w.rangeAt b (o + k * 11) (smC s) := by
  obtain ⟨b, o, h1, h2, h3⟩ := h (by omega)
  exact ⟨b, o, l[k], h1, h2, List.getElem?_eq_getElem hk, h3 k _ (List.getElem?_eq_getElem hk)⟩
section
variable {H : Type} {enc : TypeId × Value → H} {W : World} {base : Nat} {sp : Nat → Bool} {hd : Bool}
set_option maxRecDepth 100000 in
theorem open_smalls {r : Reach} {b0 : Nat} {v : Value} {d : DataW H} {ps : List MemPlace}
    (hval : Value.okWide Try.prog W r b0 63 v) (h0 : DataW.Trod enc Try.prog W base sp hd 63 v d ps) :
    ∃ (A : Option Addr) (n c : Nat) (l : List Sm), v = .slice A n c ∧ n = l.length ∧ n ≤ maxLen ∧ n ≤ c ∧ RdM W W.heap.size A l ∧ (∀ s ∈ l, OkS s) := by
  obtain ⟨a, n, c, rfl⟩ := okWide_slice Try.underlying63 hval
  have hsp : ∀ ad, a = some ad → ad.spot = none := by
    rintro ad rfl
    simp only [Value.okWide, Try.underlying63, Cell.okWide, Cell.ok] at hval
    exact hval.2.2.2.1
  have hc3 : Try.prog.cellsOf 33 = 11 := by kernel_rfl
  obtain ⟨fuel, hf⟩ := h0
  rcases Go.Deep.open_slice Try.underlying63 hf with ⟨hcs, _⟩ | ⟨ad, len, cap, m, k, D, Pl, hcs, hb, hl, hm, hmm, _, hx⟩
  · have e : a = none ∧ n = 0 ∧ c = 0 := by simpa [Value.cells] using hcs
    obtain ⟨rfl, rfl, rfl⟩ := e
    exact ⟨none, 0, 0, [], rfl, rfl, Nat.zero_le _, Nat.le_refl _, fun h => absurd h (by simp), fun x h => (by cases h)⟩
  · have e : a = some ad ∧ n = len ∧ c = cap := by simpa [Value.cells] using hcs
    obtain ⟨rfl, rfl, rfl⟩ := e
    have hspot := hsp ad rfl
    obtain ⟨b, o, s⟩ := ad
    obtain rfl : s = none := hspot
    have hlm : n ≤ m := by rw [hmm]; split <;> omega
    have each : ∀ i, i < n → ∃ x : Sm, W.rangeAt b (o + i * 11) (smC x) ∧ OkS x := fun i hi => by
      obtain ⟨cs', h1, h2⟩ := hx i (by omega)
      rw [hc3] at h1
      obtain ⟨_, hlen, hcell⟩ := World.cells?_some h1
      obtain ⟨y, rfl, hok⟩ := small_cells h2
      refine ⟨y, fun j v hv => ?_, hok⟩
      have hj : j < 11 := by rw [← hlen]; exact (List.getElem?_eq_some_iff.1 hv).1
      have g0 := hcell j hj
      rw [Addr.add_lit, Addr.add_mid] at g0
      exact g0.trans hv
    have pick : ∃ f : Nat → Sm, ∀ i, i < n → W.rangeAt b (o + i * 11) (smC (f i)) ∧ OkS (f i) :=
      ⟨fun i => if h : i < n then (each i h).choose else ⟨false, 0, 0, 0, 0, 0, 0, 0, 0, 0, false⟩, fun i h => by simp only [dif_pos h]; exact (each i h).choose_spec⟩
    obtain ⟨f, hf'⟩ := pick
    have hget : ∀ (i : Nat) (p : Sm), ((List.range n).map f)[i]? = some p → i < n ∧ p = f i := fun i p hp => by
      rw [List.getElem?_map] at hp
      obtain ⟨j, hj, rfl⟩ := Option.map_eq_some_iff.1 hp
      obtain ⟨h1, h2⟩ := List.getElem?_eq_some_iff.1 hj
      rw [List.length_range] at h1
      rw [List.getElem_range] at h2
      exact ⟨h1, by rw [h2]⟩
    refine ⟨some ⟨b, o, none⟩, n, c, (List.range n).map f, rfl, by simp, Nat.le_trans hl hm, hl, fun h0 => ⟨b, o, rfl, ?_, fun i p hp => ?_⟩, fun x hx => ?_⟩
    · have h0' : 0 < n := by simpa using h0
      exact World.block_lt_of_cell? _ _ ((hf' 0 h0').1 0 _ rfl)
    · obtain ⟨hin, rfl⟩ := hget i p hp
      exact (hf' i hin).1
    · simp only [List.mem_map, List.mem_range] at hx
      obtain ⟨i, hi, rfl⟩ := hx
      exact (hf' i hi).2
end
end Go.Proofs.Ytkkilfoncdbciaa
