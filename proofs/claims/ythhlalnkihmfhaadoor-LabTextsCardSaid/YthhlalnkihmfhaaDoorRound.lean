/- Layer 1: labels as a text, read again: the same labels. -/
import Derived.Test.YthhlalnkihmfhaaDoorRparse
import Derived.Test.YthhlalnkihmfhaaDoorText
namespace Go.Proofs.YthhlalnkihmfhaaDoor
open Go.RowKit

theorem fits_mem {p : Nat → Bool} {m : Nat} {s : ByteArray} (h : fitsB p m s = true) : s.size ≤ m ∧ ∀ c ∈ s.data.toList, p c.toNat = true := by
  unfold fitsB at h
  rw [Bool.and_eq_true, Bool.and_eq_true, List.all_eq_true] at h
  exact ⟨of_decide_eq_true h.1.2, h.2⟩
theorem chk_mem : ∀ (l : List Pr) (o : Option Pr), chk o l = 0 → ∀ p ∈ l, keyB p.1 = true ∧ valueB p.2 = true
  | [], _, _, p, hp => by cases hp
  | q :: r, o, h, p, hp => by
    cases hk : (keyB q.1 && valueB q.2) with
    | false => cases o <;> simp [chk, hk] at h
    | true =>
      have hr : chk (some q) r = 0 := by
        cases o with
        | none => simpa [chk, hk] using h
        | some o =>
          simp only [chk, hk, if_true] at h
          split at h
          · cases h
          · split at h
            · cases h
            · exact h
      rw [List.mem_cons] at hp
      rcases hp with rfl | hp
      · simpa using hk
      · exact chk_mem r (some q) hr p hp
/-- what a good pair's text is like -/
theorem pair_good {p : Pr} (hk : keyB p.1 = true) (hv : valueB p.2 = true) : (pairL p).length ≤ 25 ∧ (∀ c ∈ pairL p, c ≠ 44) ∧ partP (strOf (pairL p)) = some p := by
  obtain ⟨s1, m1⟩ := fits_mem hk
  obtain ⟨s2, m2⟩ := fits_mem hv
  have l1 : p.1.data.toList.length = p.1.size := by simp
  have l2 : p.2.data.toList.length = p.2.size := by simp
  refine ⟨by simp only [pairL, List.length_append, List.length_cons]; omega, fun c hc => ?_, ?_⟩
  · rintro rfl
    rw [pairL, List.mem_append, List.mem_cons] at hc
    rcases hc with hc | hc | hc
    · have h := m1 _ hc; revert h; decide
    · revert hc; decide
    · have h := m2 _ hc; revert h; decide
  · rw [partP, strOf_list, cutL_hit (a := p.1.data.toList.length) (fun j hj h => ?_) (by rw [pairL, List.getElem?_append_right (Nat.le_refl _), Nat.sub_self]; rfl)]
    · have e1 : (pairL p).take p.1.data.toList.length = p.1.data.toList := by rw [pairL, List.take_left]
      have e2 : (pairL p).drop (p.1.data.toList.length + 1) = p.2.data.toList := by rw [pairL, ← List.drop_drop, List.drop_left]; rfl
      rw [e1, e2, Option.map_some, strOf_data, strOf_data]
    · rw [pairL, List.getElem?_append_left hj] at h
      have h2 := m1 _ (List.mem_iff_getElem?.2 ⟨j, h⟩)
      revert h2; decide
theorem splitL_pairs : ∀ (r : List Pr) (p : Pr), (∀ q ∈ p :: r, ∀ c ∈ pairL q, c ≠ 44) → splitL 44 (pairL p ++ r.flatMap fun q => 44 :: pairL q) = (p :: r).map pairL
  | [], p, h => by
    rw [List.flatMap_nil, List.append_nil, splitL_miss _ fun j hj => h p (by simp) 44 (List.mem_iff_getElem?.2 ⟨j, hj⟩) rfl]
    rfl
  | q :: r, p, h => by
    have ih := splitL_pairs r q fun x hx => h x (by simp [hx])
    rw [List.flatMap_cons, List.cons_append, splitL_hit (pairL p).length _ (fun j hj hh => by
        rw [List.getElem?_append_left hj] at hh
        exact h p (by simp) 44 (List.mem_iff_getElem?.2 ⟨j, hh⟩) rfl) (by rw [List.getElem?_append_right (Nat.le_refl _), Nat.sub_self]; rfl)]
    rw [List.take_left, ← List.drop_drop, List.drop_left, List.drop_one, List.tail_cons, ih]
    rfl
theorem textL_bound : ∀ (z : List Pr), (∀ p ∈ z, (pairL p).length ≤ 25) → (z.flatMap fun q => 44 :: pairL q).length ≤ 26 * z.length
  | [], _ => by simp
  | p :: r, h => by
    have ih := textL_bound r fun q hq => h q (by simp [hq])
    have := h p (by simp)
    simp only [List.flatMap_cons, List.length_append, List.length_cons] at ih ⊢
    omega
theorem pairs_back : ∀ (z : List Pr), (∀ p ∈ z, partP (strOf (pairL p)) = some p) → pairsP (z.map fun p => strOf (pairL p)) = z
  | [], _ => rfl
  | p :: r, h => by
    have ih := pairs_back r fun q hq => h q (by simp [hq])
    unfold pairsP at ih ⊢
    rw [List.map_cons, List.filterMap_cons, h p (by simp), ih]
/-- a made list's text is short -/
theorem made_good {l z : List Pr} (h : makeP l = (z, 0)) : z = sortP l ∧ check z = 0 ∧ z.length ≤ 8 ∧ ∀ p ∈ z, keyB p.1 = true ∧ valueB p.2 = true := by
  unfold makeP at h
  split at h
  · rename_i hc
    obtain rfl := (Prod.mk.inj h).1
    have hc' := hc
    unfold check at hc
    split at hc
    · cases hc
    · exact ⟨rfl, hc', by omega, chk_mem _ _ hc⟩
  · rename_i hc
    exact absurd (Prod.mk.inj h).2 hc
theorem made_text {l z : List Pr} (h : makeP l = (z, 0)) : (textL z).length ≤ 208 := by
  obtain ⟨_, _, h8, hg⟩ := made_good h
  have hb := textL_bound z fun p hp => (pair_good (hg p hp).1 (hg p hp).2).1
  cases z with
  | nil => simp [textL]
  | cons p r =>
    simp only [textL, List.flatMap_cons, List.length_append, List.length_cons] at hb h8 ⊢
    omega
theorem parse_text {l z : List Pr} (h : makeP l = (z, 0)) : parseP (strOf (textL z)) = (z, 0) := by
  have hlen := made_text h
  obtain ⟨hz, hc, h8, hg⟩ := made_good h
  have hsz : (strOf (textL z)).size = (textL z).length := rfl
  rw [parseP, if_neg (by omega)]
  cases z with
  | nil => rw [if_pos (by rw [hsz]; rfl)]
  | cons p r =>
    have hne : (textL (p :: r)).length ≠ 0 := by simp [textL, pairL]
    rw [if_neg (by omega)]
    have hsplit : splitS 44 (strOf (textL (p :: r))) = (p :: r).map fun q => strOf (pairL q) := by
      rw [splitS, strOf_list, textL, splitL_pairs r p fun q hq => (pair_good (hg q hq).1 (hg q hq).2).2.1, List.map_map]
      rfl
    have hback := pairs_back (p :: r) fun q hq => (pair_good (hg q hq).1 (hg q hq).2).2.2
    rw [hsplit, partsP_all (fun x hx => by
      obtain ⟨q, hq, rfl⟩ := List.mem_map.1 hx
      exact ⟨q, (pair_good (hg q hq).1 (hg q hq).2).2.2⟩) (by rw [List.length_map]; exact h8), hback]
    have hs : sortP (p :: r) = p :: r := by rw [hz]; exact sortP_unique (List.Perm.refl _) (sortP_sorted l)
    rw [makeP, hs, if_pos hc]
end Go.Proofs.YthhlalnkihmfhaaDoor
