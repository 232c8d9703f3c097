/- Layer 7, plain words: a record's bytes; what bytes begin with a record; the records with which bytes begin. No program is named here. -/
import Derived.Test.YtgcfofnlgdfmoaaCrcFour
namespace Go.Proofs.Ytgcfofnlgdfmoaa
open Go.RowKit

/-- a record -/
def laidR (l : List Nat) : List Nat := four l.length ++ (four (sumN (four l.length ++ l)) ++ l)
theorem laidR_length (l : List Nat) : (laidR l).length = l.length + 8 := by simp [laidR, four]
theorem laidR_ok {l : List Nat} (h : OkB l) : OkB (laidR l) := (okB_four _).append ((okB_four _).append h)
/-- the content of the record with which b begins -/
def takeJ (b : List Nat) : Option (List Nat) :=
  if b.length < 8 then none
  else if 524288 < takeN (b.take 4) ∨ b.length - 8 < takeN (b.take 4) then none
  else if sumN (b.take 4 ++ (b.drop 8).take (takeN (b.take 4))) = takeN ((b.drop 4).take 4) then some ((b.drop 8).take (takeN (b.take 4))) else none
theorem takeJ_some {b c : List Nat} (hb : OkB b) (h : takeJ b = some c) : b = laidR c ++ b.drop (c.length + 8) ∧ c.length ≤ 524288 := by
  unfold takeJ at h
  by_cases h8 : b.length < 8
  · rw [if_pos h8] at h; cases h
  · rw [if_neg h8] at h
    by_cases hn : 524288 < takeN (b.take 4) ∨ b.length - 8 < takeN (b.take 4)
    · rw [if_pos hn] at h; cases h
    · rw [if_neg hn] at h
      by_cases hs : sumN (b.take 4 ++ (b.drop 8).take (takeN (b.take 4))) = takeN ((b.drop 4).take 4)
      · rw [if_pos hs] at h
        injection h with h
        have h4 : (b.take 4).length = 4 := by rw [List.length_take]; omega
        have h44 : ((b.drop 4).take 4).length = 4 := by rw [List.length_take, List.length_drop]; omega
        have hc : c.length = takeN (b.take 4) := by rw [← h, List.length_take, List.length_drop]; omega
        have e1 : four c.length = b.take 4 := by rw [hc]; exact four_takeN h4 (hb.take 4)
        have e2 : four (sumN (b.take 4 ++ c)) = (b.drop 4).take 4 := by rw [← h, hs]; exact four_takeN h44 ((hb.drop 4).take 4)
        refine ⟨?_, by omega⟩
        unfold laidR
        rw [e1, e2]
        have e3 : c = (b.drop 8).take c.length := by rw [hc]; exact h.symm
        have e4 : b.drop (c.length + 8) = (b.drop 8).drop c.length := by rw [List.drop_drop, Nat.add_comm 8]
        have e5 : c ++ b.drop (c.length + 8) = b.drop 8 := by
          rw [e4]
          conv => lhs; lhs; rw [e3]
          exact List.take_append_drop _ _
        have e6 : (b.drop 4).take 4 ++ b.drop 8 = b.drop 4 := by
          have : b.drop 8 = (b.drop 4).drop 4 := by rw [List.drop_drop]
          rw [this]; exact List.take_append_drop _ _
        rw [List.append_assoc, List.append_assoc, e5, e6]
        exact (List.take_append_drop 4 b).symm
      · rw [if_neg hs] at h; cases h
theorem takeJ_laid {c r : List Nat} (hc : OkB c) (hl : c.length ≤ 524288) : takeJ (laidR c ++ r) = some c := by
  have h4 : (four c.length).length = 4 := rfl
  have h44 : (four (sumN (four c.length ++ c))).length = 4 := rfl
  have e1 : (laidR c ++ r).take 4 = four c.length := by
    unfold laidR; rw [List.append_assoc, List.take_append_of_le_length (by omega), List.take_of_length_le (by omega)]
  have e0 : (laidR c ++ r).drop 4 = four (sumN (four c.length ++ c)) ++ (c ++ r) := by
    unfold laidR
    rw [List.append_assoc, List.append_assoc, List.drop_left' h4]
  have e2 : ((laidR c ++ r).drop 4).take 4 = four (sumN (four c.length ++ c)) := by
    rw [e0, List.take_left' h44]
  have e3 : (laidR c ++ r).drop 8 = c ++ r := by
    have : (laidR c ++ r).drop 8 = ((laidR c ++ r).drop 4).drop 4 := by rw [List.drop_drop]
    rw [this, e0, List.drop_left' h44]
  have hn : takeN (four c.length) = c.length := takeN_four (by omega)
  have hsum : sumN (four c.length ++ c) < 4294967296 := sumN_lt ((okB_four _).append hc)
  have hlen : (laidR c ++ r).length = c.length + 8 + r.length := by rw [List.length_append, laidR_length]
  unfold takeJ
  rw [if_neg (by omega), e1, hn, if_neg (by omega), e3, List.take_left, if_pos (by rw [e2, takeN_four hsum])]

/-- the records with which b begins, and how many bytes they take -/
def scanK : Nat → List Nat → List (List Nat) × Nat
  | 0, _ => ([], 0)
  | f + 1, b => match takeJ b with
    | none => ([], 0)
    | some c => (c :: (scanK f (b.drop (c.length + 8))).1, c.length + 8 + (scanK f (b.drop (c.length + 8))).2)
def scanJ (b : List Nat) : List (List Nat) × Nat := scanK (b.length + 1) b
theorem takeJ_long {b c : List Nat} (h : takeJ b = some c) : c.length + 8 ≤ b.length := by
  unfold takeJ at h
  by_cases h8 : b.length < 8
  · rw [if_pos h8] at h; cases h
  · rw [if_neg h8] at h
    by_cases hn : 524288 < takeN (b.take 4) ∨ b.length - 8 < takeN (b.take 4)
    · rw [if_pos hn] at h; cases h
    · rw [if_neg hn] at h
      split at h
      · injection h with h
        rw [← h, List.length_take, List.length_drop]; omega
      · cases h
theorem scanK_fuel : ∀ (f : Nat) (b : List Nat), b.length < f → scanK f b = scanJ b
  | 0, b, h => by omega
  | f + 1, b, h => by
    unfold scanJ
    rw [scanK, scanK]
    cases e : takeJ b with
    | none => rfl
    | some c =>
      have hl := takeJ_long e
      have h1 : (b.drop (c.length + 8)).length < f := by rw [List.length_drop]; omega
      have h2 : (b.drop (c.length + 8)).length < b.length := by rw [List.length_drop]; omega
      simp only [scanK_fuel f _ h1]
      have h3 : scanK b.length (b.drop (c.length + 8)) = scanJ (b.drop (c.length + 8)) := by
        by_cases hbf : b.length = f
        · rw [hbf]; exact scanK_fuel f _ h1
        · exact scanK_fuel b.length _ h2
      rw [h3]
termination_by f b => f + b.length
theorem scanJ_none {b : List Nat} (h : takeJ b = none) : scanJ b = ([], 0) := by unfold scanJ; rw [scanK, h]
theorem scanJ_some {b c : List Nat} (h : takeJ b = some c) : scanJ b = (c :: (scanJ (b.drop (c.length + 8))).1, c.length + 8 + (scanJ (b.drop (c.length + 8))).2) := by
  have hl := takeJ_long h
  have e : scanK b.length (b.drop (c.length + 8)) = scanJ (b.drop (c.length + 8)) := scanK_fuel _ _ (by rw [List.length_drop]; omega)
  conv => lhs; unfold scanJ
  rw [scanK, h]
  simp only [e]
/-- records laid one behind the other -/
def joinR (L : List (List Nat)) : List Nat := L.flatMap laidR
/-- records that may be -/
def OkR (L : List (List Nat)) : Prop := ∀ c ∈ L, OkB c ∧ c.length ≤ 524288
theorem scanJ_join : ∀ {L : List (List Nat)} {r : List Nat}, OkR L → scanJ (joinR L ++ r) = (L ++ (scanJ r).1, (joinR L).length + (scanJ r).2)
  | [], r, _ => by simp [joinR]
  | c :: L, r, h => by
    have hc := h c (by simp)
    have ih := scanJ_join (L := L) (r := r) fun x hx => h x (by simp [hx])
    have e : joinR (c :: L) ++ r = laidR c ++ (joinR L ++ r) := by simp [joinR]
    have ed : (laidR c ++ (joinR L ++ r)).drop (c.length + 8) = joinR L ++ r := List.drop_left' (laidR_length c)
    rw [e, scanJ_some (takeJ_laid hc.1 hc.2), ed, ih]
    have : (joinR (c :: L)).length = c.length + 8 + (joinR L).length := by
      show (laidR c ++ joinR L).length = _
      rw [List.length_append, laidR_length]
    rw [this]
    simp only [List.cons_append, Nat.add_assoc]
theorem scanJ_le : ∀ (n : Nat) (b : List Nat), b.length ≤ n → (scanJ b).2 ≤ b.length
  | n, b, h => by
    cases e : takeJ b with
    | none => rw [scanJ_none e]; exact Nat.zero_le _
    | some c =>
      have hl := takeJ_long e
      match n with
      | 0 => omega
      | n + 1 =>
        have ih := scanJ_le n (b.drop (c.length + 8)) (by rw [List.length_drop]; omega)
        rw [scanJ_some e]
        rw [List.length_drop] at ih
        show c.length + 8 + _ ≤ _
        omega
/-- what is scanned are records that are laid there -/
theorem scanJ_laid : ∀ (n : Nat) (b : List Nat), b.length ≤ n → OkB b → OkR (scanJ b).1 ∧ b.take (scanJ b).2 = joinR (scanJ b).1
  | n, b, h, hb => by
    cases e : takeJ b with
    | none => rw [scanJ_none e]; exact ⟨(fun _ h => nomatch h), by simp [joinR]⟩
    | some c =>
      have hl := takeJ_long e
      obtain ⟨h1, h2⟩ := takeJ_some hb e
      match n with
      | 0 => omega
      | n + 1 =>
        have ih := scanJ_laid n (b.drop (c.length + 8)) (by rw [List.length_drop]; omega) (hb.drop _)
        rw [scanJ_some e]
        have hc : OkB c := fun x hx => hb x (by rw [h1]; simp [laidR, hx])
        refine ⟨fun x hx => ?_, ?_⟩
        · rcases List.mem_cons.1 hx with rfl | hx
          · exact ⟨hc, h2⟩
          · exact ih.1 x hx
        · show b.take (c.length + 8 + _) = laidR c ++ joinR _
          rw [← ih.2]
          obtain ⟨R, hR⟩ : ∃ R, R = b.drop (c.length + 8) := ⟨_, rfl⟩
          rw [← hR] at h1 ⊢
          have hll := laidR_length c
          rw [h1, List.take_append, List.take_of_length_le (by omega), hll, Nat.add_sub_cancel_left]
end Go.Proofs.Ytgcfofnlgdfmoaa
