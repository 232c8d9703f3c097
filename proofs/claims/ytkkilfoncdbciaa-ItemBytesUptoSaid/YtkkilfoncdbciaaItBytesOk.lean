/- Layer 4: an item's bytes are bytes; short texts of labels. No program is named here. -/
import Derived.Test.YtkkilfoncdbciaaItGet2
import Derived.Test.YtkkilfoncdbciaaRtext
namespace Go.Proofs.Ytkkilfoncdbciaa
open Go.RowKit

theorem okB_leb {n : Nat} (h : n < 18446744073709551616) : OkB (leb n) := leb_bytes h
theorem okB_one {n : Nat} (h : n < 256) : OkB [n] := fun x hx => by
  obtain rfl : x = n := by simpa using hx
  exact h
theorem okB_text {s : ByteArray} (h : s.size ≤ 1048576) : OkB (textB s) := (okB_leb (by omega)).append (bytesN_ok s)
theorem okB_labs : ∀ {l : List Pr}, (∀ p ∈ l, p.1.size ≤ 1048576 ∧ p.2.size ≤ 1048576) → OkB (labsB l)
  | [], _ => OkB.nil
  | p :: r, h => by
    obtain ⟨h1, h2⟩ := h p (by simp)
    exact ((okB_text h1).append (okB_text h2)).append (okB_labs fun q hq => h q (by simp [hq]))
theorem itemB_ok {x : It} (hx : OkI x) (hs : ShortI x) (hl : x.l.length ≤ 1048576) : OkB (itemB x) := by
  rw [itemB_right]
  refine OkB.append ?_ ?_
  · cases x.g
    · exact okB_one (by decide)
    · exact okB_one (by decide)
  · cases x.g with
    | true =>
      rw [if_pos rfl, gapB_right]
      exact (okB_one hx.ga).append ((okB_leb hx.gf).append ((okB_leb hx.gt).append OkB.nil))
    | false =>
      rw [if_neg (by decide), evB_right]
      refine (okB_one hx.o).append ((okB_leb hx.q).append ((okB_leb hx.t).append ((okB_text hs.r).append (((okB_leb (by omega)).append (okB_labs fun p hp => ?_)).append ((okB_one hx.s).append ((okB_one hx.p).append ((okB_leb (zig_lt hx.v0 hx.v1)).append ((okB_one hx.w).append OkB.nil))))))))
      obtain ⟨i, hi⟩ := List.mem_iff_getElem?.1 hp
      exact hs.l i p hi
theorem ShortI.wide {x : It} (h : ShortI x) (hl : x.l.length ≤ 1048576) : FitI 1048576 1048576 1048576 1048576 x :=
  ⟨h.r, h.r, hl, hl, fun p hp => by
    obtain ⟨i, hi⟩ := List.mem_iff_getElem?.1 hp
    exact ⟨h.l i p hi, h.l i p hi⟩⟩
theorem textL_short {l : List Pr} (h : ∀ p ∈ l, p.1.size ≤ 100 ∧ p.2.size ≤ 100) (hl : l.length ≤ 20) : (textL l).length ≤ 10000 := by
  have hp : ∀ p ∈ l, (pairL p).length ≤ 201 := fun p hp => by
    obtain ⟨h1, h2⟩ := h p hp
    have e1 : p.1.data.size = p.1.size := rfl
    have e2 : p.2.data.size = p.2.size := rfl
    simp only [pairL, List.length_append, List.length_cons, Array.length_toList]
    omega
  cases l with
  | nil => simp [textL]
  | cons p r =>
    have h1 := hp p (by simp)
    have h2 : ∀ (r : List Pr), (∀ q ∈ r, (pairL q).length ≤ 201) → (r.flatMap fun q => 44 :: pairL q).length ≤ 202 * r.length := by
      intro r
      induction r with
      | nil => intro _; simp
      | cons q t ih =>
        intro hq
        have h3 := hq q (by simp)
        have h4 := ih fun z hz => hq z (by simp [hz])
        simp only [List.flatMap_cons, List.length_append, List.length_cons] at h4 ⊢
        omega
    have h3 := h2 r fun q hq => hp q (by simp [hq])
    simp only [List.length_cons] at hl
    simp only [textL, List.length_append]
    omega
end Go.Proofs.Ytkkilfoncdbciaa
