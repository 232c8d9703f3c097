/- Layer 7, plain words: records that are cut, or turned. No program is named here. -/
import Derived.Test.YtgcfofnlgdfmoaaJlPlain
namespace Go.Proofs.Ytgcfofnlgdfmoaa
open Go.RowKit

/-- bytes with one of them turned -/
def turnB (l : List Nat) (j d : Nat) : List Nat := l.set j (l.getD j 0 ^^^ d)
theorem turnB_length (l : List Nat) (j d : Nat) : (turnB l j d).length = l.length := by unfold turnB; rw [List.length_set]
theorem turnB_ok {l : List Nat} (h : OkB l) (j : Nat) {d : Nat} (hd : d < 256) : OkB (turnB l j d) := fun x hx => by
  rcases List.mem_or_eq_of_mem_set hx with hx | hx
  · exact h x hx
  · rw [hx]
    refine Nat.xor_lt_two_pow (n := 8) ?_ hd
    rw [List.getD_eq_getElem?_getD]
    cases e : l[j]? with
    | none => show 0 < _; decide
    | some y => exact h y (List.mem_iff_getElem?.2 ⟨j, e⟩)
theorem turnB_append_left {a b : List Nat} {j d : Nat} (h : j < a.length) : turnB (a ++ b) j d = turnB a j d ++ b := by
  unfold turnB
  rw [List.set_append_left _ _ h, List.getD_eq_getElem?_getD, List.getElem?_append_left h, ← List.getD_eq_getElem?_getD]
theorem turnB_append_right {a b : List Nat} {j d : Nat} (h : a.length ≤ j) : turnB (a ++ b) j d = a ++ turnB b (j - a.length) d := by
  unfold turnB
  rw [List.set_append_right _ _ h, List.getD_eq_getElem?_getD, List.getElem?_append_right h, ← List.getD_eq_getElem?_getD]
theorem turnB_ne {l : List Nat} {j d : Nat} (hj : j < l.length) (hd : 0 < d) : turnB l j d ≠ l := fun e => by
  have h := congrArg (·[j]?) e
  unfold turnB at h
  simp only [List.getElem?_set_self hj] at h
  rw [List.getElem?_eq_getElem hj, List.getD_eq_getElem?_getD, List.getElem?_eq_getElem hj] at h
  injection h with h
  have h : l[j] ^^^ d = l[j] := h
  have h2 : (l[j] ^^^ d) ^^^ l[j] = 0 := by rw [h, Nat.xor_self]
  rw [Nat.xor_comm l[j] d, Nat.xor_assoc, Nat.xor_self, Nat.xor_zero] at h2
  omega
/-- the sum of turned bytes is another one -/
theorem sumN_turned {l : List Nat} {j d : Nat} (hj : j < l.length) (hd : 0 < d) (hd2 : d < 256) : sumN (turnB l j d) ≠ sumN l := fun e => by
  have hc : l[j]? = some (l.getD j 0) := by rw [List.getD_eq_getElem?_getD, List.getElem?_eq_getElem hj]; rfl
  have h := reg_set full l j d _ hc
  unfold sumN turnB at e
  rw [h] at e
  have h2 : (reg full l ^^^ stepN (8 * (l.length - j)) d) = reg full l := by
    have e2 := congrArg (· ^^^ full) e
    simp only [Nat.xor_assoc, Nat.xor_self, Nat.xor_zero] at e2
    exact e2
  have h3 : stepN (8 * (l.length - j)) d = 0 := by
    have e3 := congrArg (reg full l ^^^ ·) h2
    simp only [← Nat.xor_assoc, Nat.xor_self, Nat.zero_xor] at e3
    exact e3
  have := stepN_inj _ (by omega : d < 4294967296) h3
  omega
/-- a record whose sum or content was turned in one byte is none -/
theorem takeJ_turned {c r : List Nat} {j d : Nat} (hc : OkB c) (hl : c.length ≤ 524288) (hj : 4 ≤ j) (hjl : j < c.length + 8) (hd : 0 < d) (hd2 : d < 256) : takeJ (turnB (laidR c) j d ++ r) = none := by
  have hsum : sumN (four c.length ++ c) < 4294967296 := sumN_lt ((okB_four _).append hc)
  have h4 : (four c.length).length = 4 := rfl
  have h44 : (four (sumN (four c.length ++ c))).length = 4 := rfl
  have hn : takeN (four c.length) = c.length := takeN_four (by omega)
  have e : turnB (laidR c) j d = four c.length ++ turnB (four (sumN (four c.length ++ c)) ++ c) (j - 4) d := by
    unfold laidR
    rw [turnB_append_right (by omega), h4]
  have hlen : (turnB (laidR c) j d ++ r).length = c.length + 8 + r.length := by rw [List.length_append, turnB_length, laidR_length]
  have t4 : (turnB (laidR c) j d ++ r).take 4 = four c.length := by rw [e, List.append_assoc, List.take_left' h4]
  have d4 : (turnB (laidR c) j d ++ r).drop 4 = turnB (four (sumN (four c.length ++ c)) ++ c) (j - 4) d ++ r := by rw [e, List.append_assoc, List.drop_left' h4]
  have d8 : (turnB (laidR c) j d ++ r).drop 8 = (turnB (four (sumN (four c.length ++ c)) ++ c) (j - 4) d ++ r).drop 4 := by rw [← d4, List.drop_drop]
  unfold takeJ
  rw [if_neg (by omega), t4, hn, if_neg (by omega), d8, d4, if_neg]
  by_cases h8 : j < 8
  · rw [turnB_append_left (by omega), List.append_assoc, List.take_left' (by rw [turnB_length]; exact h44), List.drop_left' (by rw [turnB_length]; exact h44), List.take_left]
    intro hs
    have hq : four (takeN (turnB (four (sumN (four c.length ++ c))) (j - 4) d)) = turnB (four (sumN (four c.length ++ c))) (j - 4) d := four_takeN (by rw [turnB_length]; rfl) (turnB_ok (okB_four _) _ hd2)
    rw [← hs] at hq
    exact turnB_ne (by omega) hd hq.symm
  · rw [turnB_append_right (by omega), h44, List.append_assoc, List.take_left' h44, List.drop_left' h44, takeN_four hsum, List.take_append_of_le_length (by rw [turnB_length]; omega), List.take_of_length_le (by rw [turnB_length]; omega)]
    intro hs
    have e2 : four c.length ++ turnB c (j - 4 - 4) d = turnB (four c.length ++ c) (j - 4) d := by rw [turnB_append_right (by omega), h4]
    rw [e2] at hs
    exact sumN_turned (by rw [List.length_append]; omega) hd hd2 hs
/-- a record that is cut is none -/
theorem takeJ_cut {c y : List Nat} (hl : c.length ≤ 524288) (h : y.length < c.length + 8) (h4 : 8 ≤ y.length → y.take 4 = four c.length) : takeJ y = none := by
  unfold takeJ
  by_cases h8 : y.length < 8
  · rw [if_pos h8]
  · rw [if_neg h8, h4 (by omega), takeN_four (by omega), if_pos (.inr (by omega))]
theorem joinR_append (a b : List (List Nat)) : joinR (a ++ b) = joinR a ++ joinR b := by simp [joinR]
theorem joinR_cons (c : List Nat) (L : List (List Nat)) : joinR (c :: L) = laidR c ++ joinR L := by simp [joinR]
theorem joinR_ok {L : List (List Nat)} (h : OkR L) : OkB (joinR L) := fun x hx => by
  obtain ⟨c, hc, hx⟩ := List.mem_flatMap.1 hx
  exact laidR_ok (h c hc).1 x hx
/-- where a place among records lies -/
theorem joinR_place : ∀ (L : List (List Nat)) (n : Nat), n < (joinR L).length → ∃ (A R : List (List Nat)) (c : List Nat) (p : Nat), L = A ++ c :: R ∧ n = (joinR A).length + p ∧ p < c.length + 8
  | [], n, h => by simp [joinR] at h
  | c :: L, n, h => by
    rw [joinR_cons, List.length_append, laidR_length] at h
    by_cases hn : n < c.length + 8
    · exact ⟨[], L, c, n, rfl, by simp [joinR], hn⟩
    · obtain ⟨A, R, x, p, h1, h2, h3⟩ := joinR_place L (n - (c.length + 8)) (by omega)
      refine ⟨c :: A, R, x, p, by rw [h1]; rfl, ?_, h3⟩
      rw [joinR_cons, List.length_append, laidR_length]
      omega
end Go.Proofs.Ytgcfofnlgdfmoaa
