/- Layer 3: a thing taken back (the statement's own helper). -/
import Derived.Test.YtgadcongolldjaaPkPut
import Derived.Test.YtgadcongolldjaaPkText
import Derived.Deep.RegionWith
import Derived.Deep.RegionHeld3
namespace Go.Proofs.Ytgadcongolldjaa
open Go.RowKit

theorem getB_put (n : Nat) (rest : List Nat) : getB (n % 2 :: rest) = (n % 2 == 1, rest, 0) := by
  rw [getB, if_neg (by omega)]
theorem getT_put {s : ByteArray} (hs : s.size ≤ 1048576) (most : Nat) (hm : s.size ≤ most) (rest : List Nat) : getT most (leb s.size ++ bytesN s ++ rest) = (bytesN s, rest, 0) := by
  unfold getT
  rw [List.append_assoc, getU_put (by omega)]
  simp only [ne_eq, not_true_eq_false, if_false]
  rw [if_neg (by omega), if_neg (by rw [List.length_append, bytesN_length]; omega)]
  have hl := bytesN_length s
  rw [← hl, List.take_left, List.drop_left]

/-- a call of the Reader keeps what lies in other blocks -/
theorem grown_of_below {w w' : World} (h : Below w.heap.size w w') (r : Option Nat) : w.grownBy w' r := ⟨h.os, h.tape, h.output, h.size, fun k hk _ => h.block k hk⟩

set_option maxRecDepth 100000 in
set_option maxHeartbeats 1000000 in
theorem back_any (g : Nat) (kind n : Nat) (hkd : kind < 256) (hn : n < 18446744073709551616) (s : ByteArray) (hs : s.size ≤ 1048576) (rest : List Nat) (w : World) (h : Rdr w g (thingB kind n s ++ rest) 0) :
    Calls Try.prog 12 #[.agg #[.int .u8 kind, .int .u64 n, .string s], .pointer (some ⟨g, 0, none⟩)] w fun e w' => e = .returned (.bool true) ∧ Rdr w' g rest 0 ∧ w.grownBy w' (some g) := by
  have hba : Below w.heap.size w (w.alloc (.cells #[.int .u8 kind, .int .u64 n, .string s] 29)).drew := ((Below.refl _ _).alloc (Nat.le_refl _) _).drew
  have Hba := Lib.hid hba
  have HW := Lib.hid (h.below hba)
  have hgl := h.lt
  have cb1 : (w.alloc (.cells #[.int .u8 kind, .int .u64 n, .string s] 29)).cell? ⟨w.heap.size, 1, none⟩ = some (.int .u64 n) := by rw [World.cell?_alloc_at _ _ _ _ rfl]; rfl
  have cb2 : (w.alloc (.cells #[.int .u8 kind, .int .u64 n, .string s] 29)).cell? ⟨w.heap.size, 2, none⟩ = some (.string s) := by rw [World.cell?_alloc_at _ _ _ _ rfl]; rfl
  clear h hba
  obtain ⟨hi1, hi2⟩ := toI_bounds hn
  have HI := Lib.hid (toI_wrap hn)
  have far : ∀ w', ((w.alloc (.cells #[.int .u8 kind, .int .u64 n, .string s] 29)).drew).grownBy w' (some g) → w'.cell? ⟨w.heap.size, 1, none⟩ = some (.int .u64 n) ∧ w'.cell? ⟨w.heap.size, 2, none⟩ = some (.string s) := fun w' hg =>
    ⟨hg.cell (a := ⟨w.heap.size, 1, none⟩) cb1 (by simp; omega), hg.cell (a := ⟨w.heap.size, 2, none⟩) cb2 (by simp; omega)⟩
  obtain ⟨r, hr, hr5⟩ : ∃ r : Nat, kind % 5 = r ∧ r < 5 := ⟨_, rfl, by omega⟩
  match r, hr5 with
  | 0, _ =>
    have Ht : thingB kind n s = [n % 256] := by unfold thingB; rw [hr]; rfl
    rw [Ht] at HW
    clear Ht
    have k0 : ((kind : Int) % 5 == 0) = true := by rw [beq_iff_eq]; omega
    have hw8 : IntKind.u8.wrap (n : Int) = (n : Int) % 256 := by rw [IntKind.wrap_u8']
    have HC : Hid (Calls Try.prog 19 #[.pointer (some ⟨g, 0, none⟩)] (w.alloc (.cells #[.int .u8 kind, .int .u64 n, .string s] 29)).drew fun e w' => e = .returned (.int .u8 ((n : Int) % 256)) ∧ (Rdr w' g rest 0 ∧ w.grownBy w' (some g)) ∧ w'.cell? ⟨w.heap.size, 1, none⟩ = some (.int .u64 n) ∧ w'.cell? ⟨w.heap.size, 2, none⟩ = some (.string s)) := by
      have h0 := rbyte_cons g (n % 256) rest _ HW.out
      exact h0.mono fun e w' ⟨he, h1, h2⟩ => ⟨he, ⟨h1, grownBy_trans (grown_of_below Hba.out _) h2⟩, far w' h2⟩
    clear hr far HW HI Hba hgl
    go_enter Try.func12, Try.ntmps12
    go_wp2_with fail
    go_region_with (first | (go_at_call 19; (with_reducible refine HC.out.mono ?_); rintro e w2 ⟨rfl, hT, k1, k2⟩; replace hT := Lib.hid hT))
    all_goals (
      go_wp2
      go_ret
      exact ⟨rfl, hT.out.1, hT.out.2⟩)
  | 1, _ =>
    have Ht : thingB kind n s = leb n := by unfold thingB; rw [hr]; rfl
    rw [Ht] at HW
    clear Ht
    have k0 : ((kind : Int) % 5 == 0) = false := by rw [beq_eq_false_iff_ne]; omega
    have k1 : ((kind : Int) % 5 == 1) = true := by rw [beq_iff_eq]; omega
    have HC : Hid (Calls Try.prog 16 #[.pointer (some ⟨g, 0, none⟩)] (w.alloc (.cells #[.int .u8 kind, .int .u64 n, .string s] 29)).drew fun e w' => e = .returned (.int .u64 n) ∧ (Rdr w' g rest 0 ∧ w.grownBy w' (some g)) ∧ w'.cell? ⟨w.heap.size, 1, none⟩ = some (.int .u64 n) ∧ w'.cell? ⟨w.heap.size, 2, none⟩ = some (.string s)) := by
      have h0 := ruint_any g _ _ HW.out
      rw [getU_put hn] at h0
      exact h0.mono fun e w' ⟨he, h1, h2⟩ => ⟨he, ⟨h1, grownBy_trans (grown_of_below Hba.out _) h2⟩, far w' h2⟩
    clear hr far HW HI Hba hgl
    go_enter Try.func12, Try.ntmps12
    go_wp2_with fail
    go_region_with (first | (go_at_call 16; (with_reducible refine HC.out.mono ?_); rintro e w2 ⟨rfl, hT, k1, k2⟩; replace hT := Lib.hid hT))
    all_goals (
      go_wp2
      go_ret
      exact ⟨rfl, hT.out.1, hT.out.2⟩)
  | 2, _ =>
    have Ht : thingB kind n s = leb (zig (toI n)) := by unfold thingB; rw [hr]; rfl
    rw [Ht] at HW
    clear Ht
    have k0 : ((kind : Int) % 5 == 0) = false := by rw [beq_eq_false_iff_ne]; omega
    have k1 : ((kind : Int) % 5 == 1) = false := by rw [beq_eq_false_iff_ne]; omega
    have k2 : ((kind : Int) % 5 == 2) = true := by rw [beq_iff_eq]; omega
    have hw64 : IntKind.i64.wrap (n : Int) = wrap64 n := by rw [IntKind.wrap_i64, wrap64]
    have HC : Hid (Calls Try.prog 20 #[.pointer (some ⟨g, 0, none⟩)] (w.alloc (.cells #[.int .u8 kind, .int .u64 n, .string s] 29)).drew fun e w' => e = .returned (.int .i64 (wrap64 n)) ∧ (Rdr w' g rest 0 ∧ w.grownBy w' (some g)) ∧ w'.cell? ⟨w.heap.size, 1, none⟩ = some (.int .u64 n) ∧ w'.cell? ⟨w.heap.size, 2, none⟩ = some (.string s)) := by
      have h0 := rint_any g _ _ HW.out
      rw [getU_put (zig_lt hi1 hi2)] at h0
      simp only [zag_zig] at h0
      rw [HI.out]
      exact h0.mono fun e w' ⟨he, h1, h2⟩ => ⟨he, ⟨h1, grownBy_trans (grown_of_below Hba.out _) h2⟩, far w' h2⟩
    clear hr far HW HI Hba hgl
    go_enter Try.func12, Try.ntmps12
    go_wp2_with fail
    go_region_with (first | (go_at_call 20; (with_reducible refine HC.out.mono ?_); rintro e w2 ⟨rfl, hT, k1, k2⟩; replace hT := Lib.hid hT))
    all_goals (
      go_wp2
      go_ret
      exact ⟨rfl, hT.out.1, hT.out.2⟩)
  | 3, _ =>
    have Ht : thingB kind n s = [n % 2] := by unfold thingB; rw [hr]; rfl
    rw [Ht] at HW
    clear Ht
    have k0 : ((kind : Int) % 5 == 0) = false := by rw [beq_eq_false_iff_ne]; omega
    have k1 : ((kind : Int) % 5 == 1) = false := by rw [beq_eq_false_iff_ne]; omega
    have k2 : ((kind : Int) % 5 == 2) = false := by rw [beq_eq_false_iff_ne]; omega
    have k3 : ((kind : Int) % 5 == 3) = true := by rw [beq_iff_eq]; omega
    have hmod : (n : Int).tmod 2 = (n : Int) % 2 := Int.tmod_eq_emod_of_nonneg (by omega)
    have HC : Hid (Calls Try.prog 21 #[.pointer (some ⟨g, 0, none⟩)] (w.alloc (.cells #[.int .u8 kind, .int .u64 n, .string s] 29)).drew fun e w' => e = .returned (.bool ((n : Int) % 2 == 1)) ∧ (Rdr w' g rest 0 ∧ w.grownBy w' (some g)) ∧ w'.cell? ⟨w.heap.size, 1, none⟩ = some (.int .u64 n) ∧ w'.cell? ⟨w.heap.size, 2, none⟩ = some (.string s)) := by
      have h0 := rbool_any g _ _ HW.out
      rw [List.singleton_append, getB_put] at h0
      rw [show ((n : Int) % 2 == 1) = (n % 2 == 1) by rw [Bool.eq_iff_iff, beq_iff_eq, beq_iff_eq]; omega]
      exact h0.mono fun e w' ⟨he, h1, h2⟩ => ⟨he, ⟨h1, grownBy_trans (grown_of_below Hba.out _) h2⟩, far w' h2⟩
    clear hr far HW HI Hba hgl
    go_enter Try.func12, Try.ntmps12
    go_wp2_with fail
    go_region_with (first | (go_at_call 21; (with_reducible refine HC.out.mono ?_); rintro e w2 ⟨rfl, hT, k1, k2⟩; replace hT := Lib.hid hT))
    all_goals (
      go_wp2
      go_ret
      exact ⟨rfl, hT.out.1, hT.out.2⟩)
  | 4, _ =>
    have Ht : thingB kind n s = leb s.size ++ bytesN s := by unfold thingB; rw [hr]; rfl
    rw [Ht] at HW
    clear Ht
    have k0 : ((kind : Int) % 5 == 0) = false := by rw [beq_eq_false_iff_ne]; omega
    have k1 : ((kind : Int) % 5 == 1) = false := by rw [beq_eq_false_iff_ne]; omega
    have k2 : ((kind : Int) % 5 == 2) = false := by rw [beq_eq_false_iff_ne]; omega
    have k3 : ((kind : Int) % 5 == 3) = false := by rw [beq_eq_false_iff_ne]; omega
    have HC : Hid (Calls Try.prog 22 #[.pointer (some ⟨g, 0, none⟩), .int .i64 s.size] (w.alloc (.cells #[.int .u8 kind, .int .u64 n, .string s] 29)).drew fun e w' => e = .returned (.string s) ∧ (Rdr w' g rest 0 ∧ w.grownBy w' (some g)) ∧ w'.cell? ⟨w.heap.size, 1, none⟩ = some (.int .u64 n) ∧ w'.cell? ⟨w.heap.size, 2, none⟩ = some (.string s)) := by
      have h0 := rtext_any g _ s.size (by omega) _ HW.out
      rw [getT_put hs _ (by simp)] at h0
      simp only [strB_bytesN] at h0
      exact h0.mono fun e w' ⟨he, h1, h2⟩ => ⟨he, ⟨h1, grownBy_trans (grown_of_below Hba.out _) h2⟩, far w' h2⟩
    clear hr far HW HI Hba hgl
    go_enter Try.func12, Try.ntmps12
    go_wp2_with fail
    go_region_with (first | (go_at_call 22; (with_reducible refine HC.out.mono ?_); rintro e w2 ⟨rfl, hT, k1, k2⟩; replace hT := Lib.hid hT))
    all_goals (
      go_wp2
      go_ret
      exact ⟨rfl, hT.out.1, hT.out.2⟩)

set_option maxRecDepth 100000 in
set_option maxHeartbeats 1000000 in
theorem put_nil (kind n : Nat) (hkd : kind < 256) (hn : n < 18446744073709551616) (s : ByteArray) (hs : s.size ≤ 1048576) (w : World) :
    Calls Try.prog 9 #[.agg #[.int .u8 kind, .int .u64 n, .string s], .pointer none] w fun e w' => ∃ v2, e = .returned v2 ∧ Below w.heap.size w w' := by
  have hba : Below w.heap.size w (w.alloc (.cells #[.int .u8 kind, .int .u64 n, .string s] 29)) := (Below.refl _ _).alloc (Nat.le_refl _) _
  obtain ⟨hi1, hi2⟩ := toI_bounds hn
  have HI := Lib.hid (toI_wrap hn)
  have hr5 : kind % 5 = 0 ∨ kind % 5 = 1 ∨ kind % 5 = 2 ∨ kind % 5 = 3 ∨ kind % 5 = 4 := by omega
  rcases hr5 with hr | hr | hr | hr | hr
  · have k0 : ((kind : Int) % 5 == 0) = true := by rw [beq_iff_eq]; omega
    clear hr
    go_enter Try.func9, Try.ntmps9
    go_wp2_with fail
    refine (wbyte_nil _ _).mono ?_
    rintro e w1 ⟨rfl, rfl⟩
    go_wp2
    go_ret
    exact ⟨_, rfl, hba.alloc (by simp) _⟩
  · have k0 : ((kind : Int) % 5 == 0) = false := by rw [beq_eq_false_iff_ne]; omega
    have k1 : ((kind : Int) % 5 == 1) = true := by rw [beq_iff_eq]; omega
    clear hr
    go_enter Try.func9, Try.ntmps9
    go_wp2_with fail
    refine (wuint_nil n rfl hn _).mono ?_
    rintro e w1 ⟨rfl, rfl⟩
    go_wp2_with fail
    refine (refUint_at n rfl hn _).mono ?_
    rintro e w2 ⟨v2, rfl, _, hb⟩
    go_wp2
    go_ret
    exact ⟨_, rfl, hba.trans (hb.mono hba.size)⟩
  · have k0 : ((kind : Int) % 5 == 0) = false := by rw [beq_eq_false_iff_ne]; omega
    have k1 : ((kind : Int) % 5 == 1) = false := by rw [beq_eq_false_iff_ne]; omega
    have k2 : ((kind : Int) % 5 == 2) = true := by rw [beq_iff_eq]; omega
    clear hr
    go_enter Try.func9, Try.ntmps9
    go_wp2_with fail
    refine (wint_nil _ (by rw [HI.out]; exact hi1) (by rw [HI.out]; exact hi2) _).mono ?_
    rintro e w1 ⟨rfl, rfl⟩
    go_wp2_with fail
    refine (refInt_at (toI n) HI.out hi1 hi2 _).mono ?_
    rintro e w2 ⟨v2, rfl, _, hb⟩
    go_wp2
    go_ret
    exact ⟨_, rfl, hba.trans (hb.mono hba.size)⟩
  · have k0 : ((kind : Int) % 5 == 0) = false := by rw [beq_eq_false_iff_ne]; omega
    have k1 : ((kind : Int) % 5 == 1) = false := by rw [beq_eq_false_iff_ne]; omega
    have k2 : ((kind : Int) % 5 == 2) = false := by rw [beq_eq_false_iff_ne]; omega
    have k3 : ((kind : Int) % 5 == 3) = true := by rw [beq_iff_eq]; omega
    clear hr
    go_enter Try.func9, Try.ntmps9
    go_wp2_with fail
    refine (wbool_nil _ _).mono ?_
    rintro e w1 ⟨rfl, rfl⟩
    go_wp2
    go_ret
    exact ⟨_, rfl, hba.alloc (by simp) _⟩
  · have k0 : ((kind : Int) % 5 == 0) = false := by rw [beq_eq_false_iff_ne]; omega
    have k1 : ((kind : Int) % 5 == 1) = false := by rw [beq_eq_false_iff_ne]; omega
    have k2 : ((kind : Int) % 5 == 2) = false := by rw [beq_eq_false_iff_ne]; omega
    have k3 : ((kind : Int) % 5 == 3) = false := by rw [beq_eq_false_iff_ne]; omega
    clear hr
    go_enter Try.func9, Try.ntmps9
    go_wp2_with fail
    refine (wtext_nil s _).mono ?_
    rintro e w1 ⟨rfl, rfl⟩
    go_wp2_with fail
    refine (refLong_any s hs _).mono ?_
    rintro e w2 ⟨v2, rfl, _, hb⟩
    go_wp2
    go_ret
    exact ⟨_, rfl, hba.trans (hb.mono hba.size)⟩
end Go.Proofs.Ytgadcongolldjaa
