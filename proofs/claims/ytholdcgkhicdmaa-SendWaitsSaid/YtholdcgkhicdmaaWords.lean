/- Layer 1, single characters and words: contracts of lab.letter, lab.sign, lab.fits, lab.Key, lab.Value, lab.Name and of the document's own Key, Value, Name. -/
import Derived.Test.YtholdcgkhicdmaaChecked
import Derived.WalkKit
import Derived.Lib.Hide
namespace Go.Proofs.Ytholdcgkhicdmaa
open Go.RowKit

/-- a small letter, as a number -/
def lowN (n : Nat) : Bool := decide (97 ≤ n) && decide (n ≤ 122)
/-- a sign of a value, as a number -/
def signN (n : Nat) : Bool := lowN n || (decide (48 ≤ n) && decide (n ≤ 57)) || n == 46 || n == 95 || n == 45

def lowB (c : UInt8) : Bool := lowN c.toNat
def signB (c : UInt8) : Bool := signN c.toNat

theorem ret_bool {a b : Bool} (h : a = b) : Ending.returned (.bool a) = .returned (.bool b) := by rw [h]

theorem lowN_yes {n : Nat} (h1 : 97 ≤ n) (h2 : n ≤ 122) : lowN n = true := by simp [lowN, h1, h2]
theorem lowN_no {n : Nat} (h : ¬ (97 ≤ n ∧ n ≤ 122)) : lowN n = false := by
  cases e : lowN n with
  | false => rfl
  | true => simp [lowN] at e; exact absurd e h

/-- one to most characters, all allowed -/
def fitsB (p : Nat → Bool) (m : Nat) (s : ByteArray) : Bool := decide (0 < s.size) && decide (s.size ≤ m) && s.data.toList.all fun c => p c.toNat

theorem all_at (s : ByteArray) (p : Nat → Bool) (i : Nat) (hi : i < s.size) (h : p (s[i]'hi).toNat = false) : (s.data.toList.all fun c => p c.toNat) = false := by
  rw [List.all_eq_false]
  exact ⟨s[i]'hi, by show s.data[i] ∈ s.data.toList; simp, by simp [h]⟩
theorem all_up (s : ByteArray) (p : Nat → Bool) (h : ∀ i, (hi : i < s.size) → p (s[i]'hi).toNat = true) : (s.data.toList.all fun c => p c.toNat) = true := by
  rw [List.all_eq_true]
  intro c hc
  obtain ⟨i, hi, rfl⟩ := List.mem_iff_getElem.1 hc
  exact h i (by simpa using hi)

/-- the first i characters are allowed -/
def UpTo (p : Nat → Bool) (s : ByteArray) (i : Nat) : Prop := ∀ j, j < i → (hj : j < s.size) → p (s[j]'hj).toNat = true

theorem low_hi (n : Nat) (h : 128 ≤ n) : lowN n = false := lowN_no (by omega)
theorem sign_hi (n : Nat) (h : 128 ≤ n) : signN n = false := by
  rw [signN, low_hi n h]
  simp; omega

def keyB (s : ByteArray) : Bool := fitsB lowN 8 s
def valueB (s : ByteArray) : Bool := fitsB signN 16 s
def firstLow (s : ByteArray) : Bool := lowN (s.data.toList.headD 0).toNat
def nameB (s : ByteArray) : Bool := fitsB signN 12 s && firstLow s

theorem fitsB_pos {p : Nat → Bool} {m : Nat} {s : ByteArray} (h : fitsB p m s = true) : 0 < s.size := by
  simp [fitsB] at h; exact h.1.1
theorem headD_at (l : List UInt8) (h : 0 < l.length) : l.headD 0 = l[0]'h := by
  cases l with
  | nil => exact absurd h (by simp)
  | cons a l => rfl
theorem firstLow_eq (s : ByteArray) (h : 0 < s.size) : firstLow s = lowN (s[0]'h).toNat := by
  have e : s.data.toList.headD 0 = s[0]'h := by
    show s.data.toList.headD 0 = s.data[0]'h
    have e1 : s.data[0]'h = s.data.toList[0]'(by simpa using h) := (Array.getElem_toList h).symm
    rw [e1]
    have hl : 0 < s.data.toList.length := by simpa using h
    exact (headD_at _ hl)
  rw [firstLow, e]

theorem B_lt (c : UInt8) : c.toNat ≤ 255 := by have := c.toNat_lt; omega

theorem upTo_succ {p : Nat → Bool} {s : ByteArray} {k : Nat} (h : UpTo p s k) (hk : k < s.size) (hp : p (s[k]'hk).toNat = true) : UpTo p s (k + 1) := by
  intro j hj hjs
  by_cases hjk : j = k
  · subst hjk; exact hp
  · exact h j (by omega) hjs
theorem sign_cases {n : Nat} (h : lowN n = false) (hn : signN n = true) : ((48 : Int) ≤ n ∧ (n : Int) ≤ 57) ∨ (n : Int) = 46 ∨ (n : Int) = 95 ∨ (n : Int) = 45 := by
  rw [signN, h] at hn; simp at hn; omega
theorem sign_not {n : Nat} (h : lowN n = false) (hn : signN n = false) : ((n : Int) < 48 ∨ ((48 : Int) ≤ n ∧ (57 : Int) < n)) ∧ (n : Int) ≠ 46 ∧ (n : Int) ≠ 95 ∧ (n : Int) ≠ 45 := by
  rw [signN, h] at hn; simp at hn; omega
theorem val_no {s : ByteArray} {k : Nat} (hk : k < s.size) (h : signN (s[k]'hk).toNat = false) : false = valueB s := by
  rw [valueB, fitsB, all_at s signN k hk h]; simp

theorem name_value {s : ByteArray} (h : valueB s = true) : fitsB signN 12 s = decide (s.size ≤ 12) := by
  simp [valueB, fitsB] at h
  have ha : (s.data.toList.all fun c => signN c.toNat) = true := by simpa using h.2
  simp only [fitsB, ha]
  rw [Bool.eq_iff_iff]; simp; omega
theorem name_novalue {s : ByteArray} (h : valueB s = false) : fitsB signN 12 s = false := by
  cases e : fitsB signN 12 s with
  | false => rfl
  | true =>
    exfalso
    have : valueB s = true := by
      simp only [fitsB, Bool.and_eq_true, decide_eq_true_eq] at e
      simp only [valueB, fitsB, Bool.and_eq_true, decide_eq_true_eq]
      exact ⟨⟨e.1.1, by omega⟩, e.2⟩
    rw [h] at this; cases this

end Go.Proofs.Ytholdcgkhicdmaa
