/- Layer 4: item.Own, item.Check; the document's own. -/
import Derived.Test.YtileaoanekphaaaItPlain
import Derived.Test.YtileaoanekphaaaRead
namespace Go.Proofs.Ytileaoanekphaaa
open Go.RowKit

theorem own_cut {s : ByteArray} : ((s.extract 0 4).toList == [111, 119, 110, 46]) = ownB s := by
  rw [Lib.toList_data, Lib.extract_data]
  unfold ownB
  rw [Bool.eq_iff_iff, beq_iff_eq, decide_eq_true_eq]
  rfl
theorem own_short {s : ByteArray} (h : ¬ 4 ≤ s.size) : false = ownB s := by
  unfold ownB
  symm
  rw [decide_eq_false_iff_not]
  intro e
  have h1 := congrArg List.length e
  rw [List.length_take] at h1
  have h2 : s.data.toList.length = s.size := rfl
  simp at h1
  omega
set_option maxHeartbeats 400000 in
theorem litePrefix_any (s : ByteArray) (w : World) :
    Calls Try.prog 47 #[.string s, .string ⟨#[111, 119, 110, 46]⟩] w fun e w' => e = .returned (.bool (ownB s)) ∧ w = w' := by
  by_cases h4 : 4 ≤ s.size
  · go_enter Try.func47, Try.ntmps47
    go_wp2
    go_ret
    exact ⟨ret_bool own_cut, rfl⟩
  · go_enter Try.func47, Try.ntmps47
    go_wp2
    go_ret
    exact ⟨ret_bool (own_short h4), rfl⟩
set_option maxHeartbeats 400000 in
theorem hasPrefix_any (s : ByteArray) (w : World) :
    Calls Try.prog 44 #[.string s, .string ⟨#[111, 119, 110, 46]⟩] w fun e w' => e = .returned (.bool (ownB s)) ∧ w = w' := by
  go_enter Try.func44, Try.ntmps44
  go_wp2_with fail
  refine (litePrefix_any s _).mono ?_
  rintro e w' ⟨rfl, rfl⟩
  go_wp2
  go_ret
  exact ⟨rfl, rfl⟩
set_option maxHeartbeats 400000 in
theorem own_any (s : ByteArray) (w : World) :
    Calls Try.prog 39 #[.string s] w fun e w' => e = .returned (.bool (ownB s)) ∧ w = w' := by
  go_enter Try.func39, Try.ntmps39
  go_wp2_with fail
  refine (hasPrefix_any s _).mono ?_
  rintro e w' ⟨rfl, rfl⟩
  go_wp2
  go_ret
  exact ⟨rfl, rfl⟩
set_option maxHeartbeats 400000 in
theorem refOwn_any (s : ByteArray) (w : World) :
    Calls Try.prog 30 #[.string s] w fun e w' => e = .returned (.bool (ownB s)) ∧ w = w' := by
  by_cases h4 : 4 ≤ s.size
  · go_enter Try.func30, Try.ntmps30
    go_wp2
    go_ret
    exact ⟨ret_bool own_cut, rfl⟩
  · go_enter Try.func30, Try.ntmps30
    go_wp2
    go_ret
    exact ⟨ret_bool (own_short h4), rfl⟩

set_option maxRecDepth 100000 in
set_option maxHeartbeats 1000000 in
theorem checkGap_any (x : It) (w : World) :
    Calls Try.prog 33 #[.agg #[.int .u8 x.ga, .int .u64 x.gf, .int .u64 x.gt]] w fun e w' => e = .returned (.int .i64 (gapN x : Nat)) ∧ Below w.heap.size w w' := by
  have hba : Below w.heap.size w (w.alloc (.cells #[.int .u8 x.ga, .int .u64 x.gf, .int .u64 x.gt] 41)) := (Below.refl _ _).alloc (Nat.le_refl _) _
  by_cases h1 : 31 < x.ga
  · have k1 : (32 : Int) ≤ x.ga := by omega
    have hg : Hid (gapN x = 6) := if_pos (.inl h1)
    clear h1
    go_enter Try.func33, Try.ntmps33
    go_wp2
    go_ret
    exact ⟨by rw [hg.out]; rfl, hba⟩
  have k1 : ¬ (32 : Int) ≤ x.ga := by omega
  by_cases h2 : x.gf = 0
  · have k2 : ((x.gf : Int) == 0) = true := by rw [beq_iff_eq]; omega
    have hg : Hid (gapN x = 6) := if_pos (.inr (.inl h2))
    clear h1 h2
    go_enter Try.func33, Try.ntmps33
    go_wp2
    go_ret
    exact ⟨by rw [hg.out]; rfl, hba⟩
  have k2 : ((x.gf : Int) == 0) = false := by rw [beq_eq_false_iff_ne]; omega
  by_cases h3 : x.gt < x.gf
  · have hg : Hid (gapN x = 6) := if_pos (.inr (.inr (.inl h3)))
    clear h1 h2
    go_enter Try.func33, Try.ntmps33
    go_wp2
    go_ret
    exact ⟨by rw [hg.out]; rfl, hba⟩
  by_cases h4 : 1099511627776 < x.gt
  · have k4 : (1099511627776 : Int) < x.gt := by omega
    have hg : Hid (gapN x = 6) := if_pos (.inr (.inr (.inr h4)))
    clear h1 h2 h4
    go_enter Try.func33, Try.ntmps33
    go_wp2
    go_ret
    exact ⟨by rw [hg.out]; rfl, hba⟩
  have k4 : ¬ (1099511627776 : Int) < x.gt := by omega
  have hg : Hid (gapN x = 0) := if_neg (by omega)
  clear h1 h2 h4
  go_enter Try.func33, Try.ntmps33
  go_wp2
  go_ret
  exact ⟨by rw [hg.out]; rfl, hba⟩
end Go.Proofs.Ytileaoanekphaaa
