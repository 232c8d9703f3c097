/- Layer 4: a small item may be one. -/
import Derived.Test.YtileaoanekphaaaItSmall
import Derived.Test.YtileaoanekphaaaItPut
namespace Go.Proofs.Ytileaoanekphaaa
open Go.RowKit

theorem u8_nat (n : Nat) (h : n < 256) : (UInt8.ofNat n).toNat = n := by
  rw [UInt8.toNat_ofNat']; omega
theorem fitsB_one (p : Nat → Bool) (m : Nat) (c : UInt8) (hm : 1 ≤ m) : fitsB p m ⟨#[c]⟩ = p c.toNat := by
  simp [fitsB, ByteArray.size, hm]
theorem labS_key (s : Sm) (i : Nat) (h : i < 3) : keyB (labS s i).1 = true := by
  show fitsB lowN 8 ⟨#[UInt8.ofNat (97 + i)]⟩ = true
  rw [fitsB_one _ _ _ (by decide), u8_nat _ (by omega)]
  exact lowN_yes (by omega) (by omega)
theorem labS_value (s : Sm) (i : Nat) : valueB (labS s i).2 = true := by
  show fitsB signN 16 ⟨#[UInt8.ofNat (48 + s.l / 4 % 10)]⟩ = true
  rw [fitsB_one _ _ _ (by decide), u8_nat _ (by omega)]
  unfold signN
  have h1 : 48 + s.l / 4 % 10 ≤ 57 := by omega
  simp [h1]
theorem labS_size (s : Sm) (i : Nat) : (labS s i).1.size = 1 ∧ (labS s i).2.size = 1 := ⟨rfl, rfl⟩
def keyC (i : Nat) : ByteArray := ⟨#[UInt8.ofNat (97 + i)]⟩
theorem keyC_next (i : Nat) (h : i < 2) : eqS (keyC i) (keyC (i + 1)) = false ∧ ltS (keyC (i + 1)) (keyC i) = false := by
  match i, h with
  | 0, _ => exact ⟨by rw [Bool.eq_false_iff]; intro e; rw [eqS_iff] at e; exact absurd e (by decide), by rw [ltS_eq]; decide⟩
  | 1, _ => exact ⟨by rw [Bool.eq_false_iff]; intro e; rw [eqS_iff] at e; exact absurd e (by decide), by rw [ltS_eq]; decide⟩
theorem labS_next (s : Sm) (i : Nat) (h : i < 2) : eqS (labS s i).1 (labS s (i + 1)).1 = false ∧ ltS (labS s (i + 1)).1 (labS s i).1 = false := keyC_next i h
theorem labsS_check (s : Sm) (k : Nat) (h : k < 4) : check (labsS s k) = 0 := by
  have k0 := labS_key s 0 (by decide)
  have k1 := labS_key s 1 (by decide)
  have k2 := labS_key s 2 (by decide)
  have v0 := labS_value s 0
  have v1 := labS_value s 1
  have v2 := labS_value s 2
  obtain ⟨e0, l0⟩ := labS_next s 0 (by decide)
  obtain ⟨e1, l1⟩ := labS_next s 1 (by decide)
  match k, h with
  | 0, _ => rfl
  | 1, _ =>
    show check [labS s 0] = 0
    simp [check, chk, k0, v0]
  | 2, _ =>
    show check [labS s 0, labS s 1] = 0
    simp only [Nat.zero_add] at e0 l0
    simp [check, chk, k0, v0, k1, v1, e0, l0]
  | 3, _ =>
    show check [labS s 0, labS s 1, labS s 2] = 0
    simp only [Nat.zero_add] at e0 l0 e1 l1
    have e1' : eqS (labS s 1).1 (labS s 2).1 = false := e1
    have l1' : ltS (labS s 2).1 (labS s 1).1 = false := l1
    simp [check, chk, k0, v0, k1, v1, k2, v2, e0, l0, e1', l1']
theorem fits_lit (p : Nat → Bool) (m : Nat) (a : Array UInt8) (h0 : 0 < a.size) (hm : a.size ≤ m) (h : a.toList.all (fun c => p c.toNat) = true) : fitsB p m ⟨a⟩ = true := by
  unfold fitsB
  rw [show (ByteArray.mk a).size = a.size from rfl, decide_eq_true h0, decide_eq_true hm, h]
  rfl
theorem ownX_ok : nameB ownX = true ∧ ownB ownX = true := by decide
theorem ruleS_ok (r : Nat) : nameB (ruleS r) = true ∧ ownB (ruleS r) = false := by
  unfold ruleS
  split <;> decide
theorem smallI_gap (s : Sm) (h : s.g = true) : smallI s = ⟨true, 0, 0, 0, ⟨#[]⟩, [], 0, 0, 0, 0, s.o % 32, 1 + s.q, 1 + s.q + s.m⟩ := if_pos h
theorem smallI_ev (s : Sm) (h : s.g = false) : smallI s = ⟨false, s.o % 32, 1 + s.q, s.t, if s.w % 8 = 7 then ownX else ruleS s.r, labsS s (s.l % 4), if s.s then 2 else 0, s.p % 8, (s.v : Int) - 100, if s.w % 8 = 7 then 1 + s.w / 8 % 2 else 0, 0, 0, 0⟩ := if_neg (by rw [h]; decide)
theorem smallI_right (s : Sm) (hs : OkS s) : itemN (smallI s) = 0 := by
  have a1 := hs.q
  have a2 := hs.m
  have a3 := hs.t
  cases hg : s.g with
  | true =>
    rw [smallI_gap s hg]
    show gapN _ = 0
    unfold gapN
    rw [if_neg (by simp only; omega)]
  | false =>
    rw [smallI_ev s hg]
    show evN _ = 0
    unfold evN
    rw [if_neg (by simp only; omega)]
    have h1 : nameB (if s.w % 8 = 7 then ownX else ruleS s.r) = true := by
      split
      · exact ownX_ok.1
      · exact (ruleS_ok s.r).1
    have h2 : ownB (if s.w % 8 = 7 then ownX else ruleS s.r) = decide (s.w % 8 = 7) := by
      split
      · rename_i h; rw [ownX_ok.2, decide_eq_true h]
      · rename_i h; rw [(ruleS_ok s.r).2, decide_eq_false h]
    simp only [h1, h2]
    rw [if_neg (by decide), if_neg (by split <;> split <;> omega), if_neg ?_]
    · exact labsS_check s _ (by omega)
    · by_cases h7 : s.w % 8 = 7
      · rw [if_pos h7, decide_eq_true h7, decide_eq_true (by omega)]; decide
      · rw [if_neg h7, decide_eq_false h7]; simp
theorem labsS_get (s : Sm) (k i : Nat) (p : Pr) (h : (labsS s k)[i]? = some p) : p.1.size = 1 ∧ p.2.size = 1 := by
  unfold labsS at h
  rw [List.getElem?_map] at h
  obtain ⟨j, _, rfl⟩ := Option.map_eq_some_iff.1 h
  exact labS_size s j
theorem ruleI_size (s : Sm) : (if s.w % 8 = 7 then ownX else ruleS s.r).size ≤ 100 := by
  split
  · decide
  · exact ruleS_size s.r
theorem smallI_ok (s : Sm) (hs : OkS s) : OkI (smallI s) := by
  have a1 := hs.q
  have a2 := hs.m
  have a3 := hs.t
  have a4 := hs.v
  have a5 := ruleI_size s
  cases hg : s.g with
  | true =>
    rw [smallI_gap s hg]
    exact ⟨by simp, by simp, by simp, (show (⟨#[]⟩ : ByteArray).size ≤ _ by decide), (fun i p h => by simp at h), by simp, by simp, by simp, by simp, by simp, by simp only; omega, by simp only; omega, by simp only; omega⟩
  | false =>
    rw [smallI_ev s hg]
    exact ⟨by simp only; omega, by simp only; omega, by simp only; omega, by simp only; unfold maxLen; omega, fun i p h => by
        obtain ⟨h1, h2⟩ := labsS_get s _ i p h
        rw [h1, h2]; decide, by simp only; split <;> decide, by simp only; omega, by simp only; omega, by simp only; omega, by simp only; split <;> omega, by simp, by simp, by simp⟩
theorem smallI_short (s : Sm) : ShortI (smallI s) := by
  have a5 := ruleI_size s
  cases hg : s.g with
  | true =>
    rw [smallI_gap s hg]
    exact ⟨(show (⟨#[]⟩ : ByteArray).size ≤ _ by decide), fun i p h => by simp at h⟩
  | false =>
    rw [smallI_ev s hg]
    exact ⟨by simp only; omega, fun i p h => by
      obtain ⟨h1, h2⟩ := labsS_get s _ i p h
      rw [h1, h2]; decide⟩
theorem smallI_labs (s : Sm) : (smallI s).l.length ≤ 3 := by
  cases hg : s.g with
  | true => rw [smallI_gap s hg]; simp
  | false =>
    rw [smallI_ev s hg]
    simp only [labsS_length]
    omega
theorem labsS_len (s : Sm) (k : Nat) : (labsB (labsS s k)).length = 4 * k := by
  induction k with
  | zero => rfl
  | succ k ih =>
    rw [labsS_succ, labsB_append, List.length_append, ih]
    have h1 : leb 1 = [1] := leb_lt (by decide)
    have h2 : (textB (labS s k).1).length = 2 := by rw [textB_length, (labS_size s k).1, h1]; rfl
    have h3 : (textB (labS s k).2).length = 2 := by rw [textB_length, (labS_size s k).2, h1]; rfl
    simp only [labsB, List.length_append, h2, h3, List.length_nil]
    omega
theorem smallI_len (s : Sm) (hs : OkS s) : (itemB (smallI s)).length ≤ 300 := by
  have ho := smallI_ok s hs
  have a5 := ruleI_size s
  have b1 := leb_le10 ho.q
  have b2 := leb_le10 ho.t
  have b3 := leb_le10 ho.gf
  have b4 := leb_le10 ho.gt
  have b5 := leb_le10 (zig_lt ho.v0 ho.v1)
  have b6 := leb_le10 (n := (smallI s).r.size) (by have := (smallI_short s).r; omega)
  have b7 := leb_le10 (n := (smallI s).l.length) (by have := smallI_labs s; omega)
  have b8 : (smallI s).r.size ≤ 100 := by
    cases hg : s.g with
    | true => rw [smallI_gap s hg]; exact (show (⟨#[]⟩ : ByteArray).size ≤ _ by decide)
    | false => rw [smallI_ev s hg]; exact a5
  have b9 : (labsB (smallI s).l).length ≤ 12 := by
    cases hg : s.g with
    | true => rw [smallI_gap s hg]; simp [labsB]
    | false =>
      rw [smallI_ev s hg]
      show (labsB (labsS s (s.l % 4))).length ≤ 12
      rw [labsS_len]; omega
  unfold itemB
  split
  · unfold gapB
    simp only [List.length_append, List.length_cons, List.length_nil]
    omega
  · unfold evB headB tailB
    simp only [List.length_append, List.length_cons, List.length_nil, textB_length]
    omega
end Go.Proofs.Ytileaoanekphaaa
