/- Layer 13: a word's kind, how many words a kind has, Check. -/
import Derived.Test.YthggaedpbmjclaaDoorCdFmt
import Derived.Test.YthggaedpbmjclaaDoorCdRef
namespace Go.Proofs.YthggaedpbmjclaaDoor
open Go.RowKit Go.Proofs

/-- the kind that a word names; 0: none -/
def kindN (s : ByteArray) : Nat := if s = nameA then 1 else if s = nameB then 2 else if s = nameC then 3 else if s = nameR then 4 else if s = nameF then 5 else 0
theorem toList_ne {a b : ByteArray} (h : a ≠ b) : (a.toList == b.toList) = false := by
  rw [beq_eq_false_iff_ne]
  intro e
  apply h
  apply ByteArray.ext
  have h1 : a.data.toList = b.data.toList := by rw [← Lib.toList_data, ← Lib.toList_data, e]
  exact Array.toList_inj.1 h1
theorem kindN_name {k : Nat} (h1 : 1 ≤ k) (h2 : k ≤ 5) : kindN (nameK k) = k := by
  have : k = 1 ∨ k = 2 ∨ k = 3 ∨ k = 4 ∨ k = 5 := by omega
  rcases this with rfl | rfl | rfl | rfl | rfl <;> decide +kernel
theorem kindN_le (s : ByteArray) : kindN s ≤ 5 := by
  unfold kindN
  repeat' split
  all_goals omega
theorem kindN_pos {s : ByteArray} (h : kindN s ≠ 0) : s = nameK (kindN s) := by
  unfold kindN at h ⊢
  repeat' split
  all_goals (first | assumption | rfl | skip)
  simp_all
theorem kindN_first {s : ByteArray} {k : Nat} (h : s = nameK k) (h1 : 1 ≤ k) (h2 : k ≤ 5) : kindN s = k := by rw [h]; exact kindN_name h1 h2
set_option maxRecDepth 100000 in
set_option maxHeartbeats 1000000 in
theorem ckind_any (s : ByteArray) (w : World) (ht : GlT w) :
    Calls Tryd.prog 20 #[.string s] w fun e w' => e = .returned (.tuple #[.int .u8 (kindN s), .bool (decide (kindN s ≠ 0))]) ∧ w = w' := by
  obtain ⟨K, hK⟩ : ∃ K, K = kindN s := ⟨_, rfl⟩
  rw [← hK]
  have HK := Lib.hid hK
  have HT := Lib.hid ht
  clear hK ht
  go_enter Tryd.func20, Tryd.ntmps20
  go_upto_region 2 with fail
  go_loopw [4] (fun kv wx => ∃ k : Nat, 1 ≤ k ∧ k ≤ 6 ∧ kv = .int .u8 k ∧ Hid (∀ j, 1 ≤ j → j < k → s ≠ nameK j) ∧ wx = w) (fun kv _ => 6 - (intOf kv).toNat)
  case atStart => exact ⟨1, by decide, by decide, rfl, fun j h1 h2 => absurd h2 (by omega), rfl⟩
  case round =>
    obtain ⟨k, hk1, hk6, rfl, HN, rfl⟩ := hrel
    by_cases hlt : k ≤ 5
    · have q1 : decide ((k : Int) ≤ 5) = true := decide_eq_true (by omega)
      have q2 : decide (k ≤ 5) = true := decide_eq_true hlt
      have c0 : wr.cell? ⟨0, k * 3, none⟩ = some (.string (nameK k)) := HT.out.sp k (by omega) 0 _ rfl
      have q3 : decide ((k : Int) < 6) = true := decide_eq_true (by omega)
      have q4 : k < 6 := by omega
      obtain ⟨y, hy⟩ : ∃ y, y = k + 1 := ⟨_, rfl⟩
      have e5 : (k : Int) + 1 = (y : Int) := by omega
      have e6 : IntKind.u8.wrap (y : Int) = (y : Int) := by rw [IntKind.wrap_u8]; omega
      have HY : Hid (y = k + 1 ∧ y ≤ 6) := ⟨hy, by omega⟩
      clear hy
      by_cases hs : nameK k = s
      · have d1 : ((nameK k).toList == s.toList) = true := by rw [hs]; simp
        have hK : K = k := by rw [HK.out]; exact kindN_first hs.symm hk1 hlt
        have HKK := Lib.hid hK
        clear hs hK
        go_wp2
        go_ret2
        exact ⟨by rw [HKK.out, decide_eq_true (show k ≠ 0 by omega)]; rfl, rfl⟩
      · have d1 := toList_ne hs
        have HN2 : Hid (∀ j, 1 ≤ j → j < y → s ≠ nameK j) := fun j h1 h2 => by
          rw [HY.out.1] at h2
          by_cases hj : j = k
          · rw [hj]; exact fun e => hs e.symm
          · exact HN.out j h1 (by omega)
        clear hs
        go_wp2
        go_roundw
        case rel => exact ⟨y, by have := HY.out; omega, HY.out.2, rfl, HN2, by first | rfl | trivial⟩
        case measure => have := HY.out; simp [intOf]; omega
    · obtain rfl : k = 6 := by omega
      have hK : K = 0 := by
        rw [HK.out]
        rcases Nat.eq_zero_or_pos (kindN s) with h | h
        · exact h
        · exact absurd (kindN_pos (by omega)) (HN.out _ h (by have := kindN_le s; omega))
      have HKK := Lib.hid hK
      clear hK
      go_wp2
      go_ret2
      exact ⟨by rw [HKK.out]; rfl, rfl⟩
def wordsK (k : Nat) : Nat := if k = 1 ∨ k = 2 ∨ k = 3 then 2 else 3
set_option maxRecDepth 100000 in
set_option maxHeartbeats 400000 in
theorem cwords_any (s : ByteArray) (a b : Bool) (w : World) :
    Calls Tryd.prog 21 #[.agg #[.string s, .bool a, .bool b]] w fun e w' => e = .returned (.int .i64 (1 + (if a then 1 else 0) + (if b then 1 else 0) : Nat)) ∧ Below w.heap.size w w' := by
  cases a <;> cases b <;> (
    go_enter Tryd.func21, Tryd.ntmps21
    go_wp2
    go_ret
    exact ⟨rfl, (Below.refl _ _).alloc (Nat.le_refl _) _⟩)
end Go.Proofs.YthggaedpbmjclaaDoor
