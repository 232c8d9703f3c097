/- Layer 13: a text cut behind each blank, while it is walked (plain). -/
import Derived.Test.YthggaedpbmjclaaDoorCdTxt0
namespace Go.Proofs.YthggaedpbmjclaaDoor
open Go.RowKit Go.Proofs

theorem cutW_len : ∀ (r : List UInt8) (acc : List ByteArray) (cur : List UInt8), acc.length ≤ (cutW r acc cur).length
  | [], acc, cur => Nat.le_refl _
  | c :: r, acc, cur => by
    rw [cutW_cons]
    split
    · have := cutW_len r (acc ++ [⟨cur.toArray⟩]) []
      rw [List.length_append] at this
      simp at this
      omega
    · exact cutW_len r acc _
/-- where the cutting loop stands: the words so far (in memory too), where the next one begins, which byte is next -/
def CutI (B : Nat) (X : ByteArray) (L : List ByteArray) (w0 : World) (lv : Value) (acc : List ByteArray) (from_ i : Nat) (wx : World) : Prop :=
  RowS B wx lv acc ∧ cutW (X.data.toList.drop i) acc ((X.data.toList.drop from_).take (i - from_)) = L ∧ from_ ≤ i ∧ i ≤ X.size ∧ Below B w0 wx
theorem CutI.few {B : Nat} {X : ByteArray} {L : List ByteArray} {w0 wx : World} {lv : Value} {acc : List ByteArray} {f i : Nat} (h : CutI B X L w0 lv acc f i wx) : acc.length ≤ L.length := by
  have := cutW_len (X.data.toList.drop i) acc ((X.data.toList.drop f).take (i - f))
  rw [h.2.1] at this
  exact this
theorem cutI_start {X : ByteArray} {L : List ByteArray} {w0 : World} (h : cutW X.data.toList [] [] = L) : CutI w0.heap.size X L w0 (.slice none 0 0) [] 0 0 w0 :=
  ⟨⟨rfl, .inl ⟨rfl, rfl⟩⟩, by simpa using h, Nat.le_refl _, Nat.zero_le _, Below.refl _ _⟩
theorem cut_word {X : ByteArray} {f i : Nat} (_ : f ≤ i) (_ : i ≤ X.size) : (⟨((X.data.toList.drop f).take (i - f)).toArray⟩ : ByteArray) = X.extract f i := by
  apply ByteArray.ext
  apply Array.toList_inj.1
  rw [Lib.extract_data]
theorem cutI_word {B : Nat} {X : ByteArray} {L : List ByteArray} {w0 wx wy : World} {lv lv' : Value} {acc : List ByteArray} {f i : Nat} (h : CutI B X L w0 lv acc f i wx) (hi : i < X.size) (hc : X[i]'hi = 32)
    (hr : RowS B wy lv' (acc ++ [X.extract f i])) (hb : Below B w0 wy) : CutI B X L w0 lv' (acc ++ [X.extract f i]) (i + 1) (i + 1) wy := by
  refine ⟨hr, ?_, Nat.le_refl _, by omega, hb⟩
  have h2 := h.2.1
  rw [drop_cons8 X i hi, cutW_cons, if_pos hc, cut_word h.2.2.1 (by omega)] at h2
  rw [Nat.sub_self, List.take_zero]
  exact h2
theorem cutI_next {B : Nat} {X : ByteArray} {L : List ByteArray} {w0 wx : World} {lv : Value} {acc : List ByteArray} {f i : Nat} (h : CutI B X L w0 lv acc f i wx) (hi : i < X.size) (hc : X[i]'hi ≠ 32) : CutI B X L w0 lv acc f (i + 1) wx := by
  refine ⟨h.1, ?_, by have := h.2.2.1; omega, by omega, h.2.2.2.2⟩
  have h2 := h.2.1
  rw [drop_cons8 X i hi, cutW_cons, if_neg hc] at h2
  have hf := h.2.2.1
  have e : (X.data.toList.drop f).take (i + 1 - f) = (X.data.toList.drop f).take (i - f) ++ [X[i]'hi] := by
    rw [show i + 1 - f = (i - f) + 1 by omega, List.take_add_one]
    congr 1
    rw [List.getElem?_drop, show f + (i - f) = i by omega]
    have : X.data.toList[i]? = some (X[i]'hi) := by
      rw [List.getElem?_eq_getElem (by simpa using hi)]
      rfl
    rw [this]
    rfl
  rw [e]
  exact h2
theorem cutI_end {B : Nat} {X : ByteArray} {L : List ByteArray} {w0 wx : World} {lv : Value} {acc : List ByteArray} {f : Nat} (h : CutI B X L w0 lv acc f X.size wx) : RowS B wx lv L := by
  have h2 := h.2.1
  rw [List.drop_eq_nil_of_le (by simp)] at h2
  have h3 : acc = L := h2
  rw [← h3]
  exact h.1
theorem dec_noblank : ∀ u : Nat, ∀ c ∈ Lib.decDigits u, c ≠ 32 := by
  intro u
  induction u using Nat.strongRecOn with
  | ind u ih =>
    have one : ∀ d, d < 10 → UInt8.ofNat (48 + d) ≠ 32 := fun d hd e => by
      have h := dig_nat hd
      rw [e] at h
      have : (32 : UInt8).toNat = 32 := rfl
      omega
    by_cases h : u < 10
    · rw [Lib.decDigits_one h]
      intro c hc
      rw [List.mem_singleton.1 hc]
      exact one u h
    · rw [dec_more h]
      intro c hc
      rcases List.mem_append.1 hc with hc | hc
      · exact ih _ (by omega) c hc
      · rw [List.mem_singleton.1 hc]
        exact one _ (by omega)
theorem itoa_noblank (z : Int) : ∀ c ∈ Lib.itoa z, c ≠ 32 := by
  intro c hc
  unfold Lib.itoa at hc
  split at hc
  · rcases List.mem_cons.1 hc with rfl | hc
    · decide
    · exact dec_noblank _ c hc
  · exact dec_noblank _ c hc
/-- what may be a condition: its text, cut -/
theorem text_cut {k tk : Nat} {lim : Int} (h : okC k lim tk) : cutW (textF k lim tk ++ ⟨#[32]⟩).data.toList [] [] = nameK k :: wordsF k lim tk := by
  have hk : 1 ≤ k ∧ k ≤ 5 := by unfold okC at h; omega
  have e : (textF k lim tk ++ ⟨#[32]⟩).data.toList = flatW (nameK k :: wordsF k lim tk) := by
    unfold textF
    rw [if_neg (by omega), ← joinJ_flat]
    simp
  rw [e, cutW_flat]
  · rfl
  · intro x hx
    rcases List.mem_cons.1 hx with rfl | hx
    · have : k = 1 ∨ k = 2 ∨ k = 3 ∨ k = 4 ∨ k = 5 := by omega
      rcases this with rfl | rfl | rfl | rfl | rfl <;> decide
    · unfold wordsF at hx
      rcases List.mem_append.1 hx with hx | hx
      · split at hx
        · simp at hx
          rw [hx]
          show ∀ c ∈ (Lib.itoa lim).toArray.toList, c ≠ 32
          rw [List.toList_toArray]
          exact itoa_noblank lim
        · cases hx
      · split at hx
        · simp at hx
          rw [hx]
          show ∀ c ∈ (Lib.decDigits tk).toArray.toList, c ≠ 32
          rw [List.toList_toArray]
          exact dec_noblank tk
        · cases hx
theorem words_sizes {k tk : Nat} {lim : Int} (h : okC k lim tk) (h0 : -9223372036854775808 ≤ lim) (h1 : lim < 9223372036854775808) (h2 : tk < 18446744073709551616) :
    (nameK k :: wordsF k lim tk).length ≤ 3 ∧ (∀ x ∈ nameK k :: wordsF k lim tk, x.size ≤ 1000) ∧ (textF k lim tk).size ≤ 3100 := by
  have hk : 1 ≤ k ∧ k ≤ 5 := by unfold okC at h; omega
  have hi := itoB_size lim h0 h1
  have hd := decB_size tk h2
  have hl : (nameK k :: wordsF k lim tk).length ≤ 3 := by
    unfold wordsF
    split <;> split <;> simp
  have hs : ∀ x ∈ nameK k :: wordsF k lim tk, x.size ≤ 1000 := by
    intro x hx
    rcases List.mem_cons.1 hx with rfl | hx
    · have : k = 1 ∨ k = 2 ∨ k = 3 ∨ k = 4 ∨ k = 5 := by omega
      rcases this with rfl | rfl | rfl | rfl | rfl <;> decide
    · unfold wordsF at hx
      rcases List.mem_append.1 hx with hx | hx
      · split at hx
        · simp at hx; rw [hx]; omega
        · cases hx
      · split at hx
        · simp at hx; rw [hx]; omega
        · cases hx
  refine ⟨hl, hs, ?_⟩
  unfold textF
  rw [if_neg (by omega)]
  show ((nameK k).data.toList ++ tailJ (wordsF k lim tk)).toArray.size ≤ 3100
  rw [List.size_toArray, List.length_append]
  have h3 := tailJ_len (r := wordsF k lim tk) (fun x hx => hs x (by simp [hx]))
  have h4 : (nameK k).data.toList.length ≤ 1000 := by have := hs (nameK k) (by simp); simpa using this
  have h5 : (wordsF k lim tk).length ≤ 2 := by simpa using hl
  have h6 : (wordsF k lim tk).length * 1001 ≤ 2 * 1001 := Nat.mul_le_mul_right _ h5
  omega
theorem rowS_rd {B : Nat} {w : World} {v : Value} {x0 : ByteArray} {r : List ByteArray} (h : RowS B w v (x0 :: r)) : ∃ g c, v = .slice (some ⟨g, 0, none⟩) (r.length + 1) c ∧ r.length + 1 ≤ c ∧ RdW w w.heap.size (some ⟨g, 0, none⟩) (x0 :: r) := by
  have h' := h
  rcases h.2 with ⟨e, e2⟩ | ⟨g, cap, cur, e, h1, h2, h3, h4, h5, h6⟩
  · exact absurd e2 (by simp)
  · rw [e] at h'
    obtain ⟨j1, j2, j3, j4⟩ := rowS_join h'
    refine ⟨g, cap, by rw [e]; rfl, by rw [← j1]; exact j2, fun _ => ⟨g, 0, rfl, j3, j4⟩⟩
end Go.Proofs.YthggaedpbmjclaaDoor
