/- Layer 7, plain words: what a crash leaves of records. No program is named here. -/
import Derived.Test.YtgcfofnlgdfmoaaJlSpoil
import Derived.Test.YtgcfofnlgdfmoaaDkTorn
namespace Go.Proofs.Ytgcfofnlgdfmoaa
open Go.RowKit

theorem pow_bit {k : Nat} (h : k < 8) : 2 ^ k < 256 := (Nat.pow_lt_pow_right (a := 2) (by decide) h : 2 ^ k < 2 ^ 8)
theorem joinR_mono {L A R : List (List Nat)} {c : List Nat} {k : Nat} (h : L = A ++ c :: R) (hk : A.length < k) : (joinR A).length + (c.length + 8) ≤ (joinR (L.take k)).length := by
  obtain ⟨j, rfl⟩ : ∃ j, k = A.length + 1 + j := ⟨k - (A.length + 1), by omega⟩
  have e : L.take (A.length + 1 + j) = A ++ c :: R.take j := by
    rw [h, List.take_append, List.take_of_length_le (by omega), show A.length + 1 + j - A.length = j + 1 by omega, List.take_succ_cons]
  rw [e, joinR_append, joinR_cons, List.length_append, List.length_append, laidR_length]
  omega
theorem take_front {A B : List Nat} {p : Nat} : (A ++ B).take (A.length + p) = A ++ B.take p := by
  rw [List.take_append, List.take_of_length_le (by omega)]
  congr 2
  omega
/-- behind a crash the records are those that were synced, and so many of those behind -/
theorem crash_scan {L : List (List Nat)} {f : Fl} (hL : OkR L) (hf : f.by_ = joinR L) {k : Nat} (hs : f.syn = (joinR (L.take k)).length) (hsl : f.syn ≤ f.by_.length) (hk : k ≤ L.length) (keep bit : Nat) :
    ∃ m, k ≤ m ∧ m ≤ L.length ∧ scanJ (tornF f keep bit).by_ = (L.take m, (joinR (L.take m)).length) := by
  obtain ⟨n, hn⟩ : ∃ n, n = min f.by_.length (f.syn + keep) := ⟨_, rfl⟩
  have hn1 : n ≤ f.by_.length := by omega
  have hn2 : f.syn ≤ n := by omega
  have key : ∀ (A R : List (List Nat)) (c r : List Nat) (p : Nat), L = A ++ c :: R → takeJ r = none → (f.syn < (joinR A).length + (c.length + 8)) → (tornF f keep bit).by_ = joinR A ++ r → ∃ m, k ≤ m ∧ m ≤ L.length ∧ scanJ (tornF f keep bit).by_ = (L.take m, (joinR (L.take m)).length) := by
    intro A R c r p hA hr hp hb
    have ht : L.take A.length = A := by rw [hA, List.take_left]
    refine ⟨A.length, ?_, by rw [hA, List.length_append]; omega, ?_⟩
    · refine Nat.le_of_not_lt fun hlt => ?_
      have := joinR_mono hA hlt
      omega
    · rw [hb, scanJ_join (fun x hx => hL x (by rw [hA]; exact List.mem_append_left _ hx)), scanJ_none hr, ht]
      simp
  unfold tornF at key ⊢
  simp only [← hn] at key ⊢
  by_cases hc : f.syn < n ∧ bit < 8
  · rw [if_pos hc] at key ⊢
    obtain ⟨A, R, c, p, h1, h2, h3⟩ := joinR_place L (n - 1) (by rw [← hf]; omega)
    have hcm : c ∈ L := by rw [h1]; exact List.mem_append_right _ List.mem_cons_self
    have hco := hL c hcm
    have hd : 0 < 2 ^ bit := Nat.pow_pos (by decide)
    have hd2 : 2 ^ bit < 256 := pow_bit hc.2
    have e1 : (f.by_.set (n - 1) (f.by_.getD (n - 1) 0 ^^^ 2 ^ bit)).take n = joinR A ++ (turnB (laidR c) p (2 ^ bit)).take (p + 1) := by
      show (turnB f.by_ (n - 1) (2 ^ bit)).take n = _
      rw [hf, h1, joinR_append, joinR_cons, turnB_append_right (by omega), turnB_append_left (by rw [laidR_length]; omega), show n = (joinR A).length + (p + 1) by omega, take_front,
        List.take_append_of_le_length (by rw [turnB_length, laidR_length]; omega), show (joinR A).length + (p + 1) - 1 - (joinR A).length = p by omega]
    refine key A R c _ p h1 ?_ (by omega) e1
    by_cases hp : p + 1 < c.length + 8
    · refine takeJ_cut hco.2 (by rw [List.length_take, turnB_length, laidR_length]; omega) fun h8 => ?_
      rw [List.length_take] at h8
      have h4 : (four c.length).length = 4 := rfl
      rw [List.take_take, show min 4 (p + 1) = 4 by omega]
      unfold laidR
      rw [turnB_append_right (by omega), List.take_left' h4]
    · rw [List.take_of_length_le (by rw [turnB_length, laidR_length]; omega)]
      have := takeJ_turned (r := []) hco.1 hco.2 (j := p) (by omega) h3 hd hd2
      rw [List.append_nil] at this
      exact this
  · rw [if_neg hc] at key ⊢
    by_cases hl : n < f.by_.length
    · obtain ⟨A, R, c, p, h1, h2, h3⟩ := joinR_place L n (by rw [← hf]; exact hl)
      have hcm : c ∈ L := by rw [h1]; exact List.mem_append_right _ List.mem_cons_self
      have e1 : f.by_.take n = joinR A ++ (laidR c).take p := by
        rw [hf, h1, joinR_append, joinR_cons, h2, take_front, List.take_append_of_le_length (by rw [laidR_length]; omega)]
      refine key A R c _ p h1 (takeJ_cut (hL c hcm).2 (by rw [List.length_take, laidR_length]; omega) fun h8 => ?_) (by omega) e1
      rw [List.length_take] at h8
      have h4 : (four c.length).length = 4 := rfl
      rw [List.take_take, show min 4 p = 4 by omega]
      unfold laidR
      rw [List.take_left' h4]
    · refine ⟨L.length, hk, Nat.le_refl _, ?_⟩
      have := scanJ_join (r := []) hL
      rw [List.append_nil] at this
      rw [List.take_of_length_le (by omega), List.take_length, hf, this, scanJ_none (by rfl)]
      simp
theorem crash_keep {L : List (List Nat)} {b : List Nat} {m : Nat} (hb : OkB b) (h : scanJ b = (L.take m, (joinR (L.take m)).length)) : b.take (joinR (L.take m)).length = joinR (L.take m) := by
  have := (scanJ_laid b.length b (Nat.le_refl _) hb).2
  rw [h] at this
  exact this
theorem tornF_ok {f : Fl} (h : OkB f.by_) (keep bit : Nat) : OkB (tornF f keep bit).by_ := by
  have h1 : ∀ l : List Nat, OkB l → ∀ n, OkB (l.take n) := fun l hl n x hx => hl x (List.mem_of_mem_take hx)
  unfold tornF
  simp only
  by_cases hc : f.syn < min f.by_.length (f.syn + keep) ∧ bit < 8
  · rw [if_pos hc]
    exact h1 _ (turnB_ok h _ (pow_bit hc.2)) _
  · rw [if_neg hc]
    exact h1 _ h _
end Go.Proofs.Ytgcfofnlgdfmoaa
