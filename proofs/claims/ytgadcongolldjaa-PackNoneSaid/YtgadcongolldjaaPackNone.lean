/- The walk of watchfirelaw03.PackNone. -/
import Derived.Test.YtgadcongolldjaaPkAwake
import Derived.Test.YtgadcongolldjaaPkBack
namespace Go.Proofs.Ytgadcongolldjaa.packNone
open Go.RowKit Go.Proofs.Ytgadcongolldjaa

set_option maxRecDepth 100000 in
set_option maxHeartbeats 2000000 in
theorem walk (kind n : Nat) (s : ByteArray) (hkd : kind < 256) (hn : n < 18446744073709551616) (most : Int) (w : World) :
    Calls Try.prog 7 #[.agg #[.int .u8 kind, .int .u64 n, .string s], .int .i64 most] w fun e w' => e = .returned (.bool true) ∧ Below w.heap.size w w' := by
  have Hn := Lib.hid hn
  have Hk := Lib.hid hkd
  have cb0 : (w.alloc (.cells #[.int .u8 kind, .int .u64 n, .string s] 29)).cell? ⟨w.heap.size, 0, none⟩ = some (.int .u8 kind) := by rw [World.cell?_alloc_at _ _ _ _ rfl]; rfl
  have cb1 : (w.alloc (.cells #[.int .u8 kind, .int .u64 n, .string s] 29)).cell? ⟨w.heap.size, 1, none⟩ = some (.int .u64 n) := by rw [World.cell?_alloc_at _ _ _ _ rfl]; rfl
  have cb2 : (w.alloc (.cells #[.int .u8 kind, .int .u64 n, .string s] 29)).cell? ⟨w.heap.size, 2, none⟩ = some (.string s) := by rw [World.cell?_alloc_at _ _ _ _ rfl]; rfl
  have hba : Below w.heap.size w (w.alloc (.cells #[.int .u8 kind, .int .u64 n, .string s] 29)) := (Below.refl _ _).alloc (Nat.le_refl _) _
  go_enter Try.func7, Try.ntmps7
  go_wp2_with fail
  refine (pawake_any _).mono ?_
  rintro e w1 ⟨rfl, hb1⟩
  have k0 := (hb1.cell (p := ⟨w.heap.size, 0, none⟩) (by simp)).trans cb0
  have k1 := (hb1.cell (p := ⟨w.heap.size, 1, none⟩) (by simp)).trans cb1
  have k2 := (hb1.cell (p := ⟨w.heap.size, 2, none⟩) (by simp)).trans cb2
  have hb2 := hba.trans (hb1.mono (by simp))
  clear hb1 hba cb0 cb1 cb2 hn hkd
  by_cases hs : s.size > 100
  · go_wp2
    go_ret
    exact ⟨rfl, hb2⟩
  · go_wp2_with fail
    refine (put_nil kind n Hk.out Hn.out s (by omega) w1).mono ?_
    rintro e w2 ⟨v2, rfl, hb3⟩
    have hb4 := hb2.trans (hb3.mono hb2.size)
    clear hb3
    go_wp2_with fail
    refine (rfail_nil 2 w2).mono ?_
    rintro e w3 ⟨rfl, rfl⟩
    go_wp2_with fail
    refine (wbytes_nil w2).mono ?_
    rintro e w3 ⟨rfl, rfl⟩
    go_wp2_with fail
    refine (rerr_nil w2).mono ?_
    rintro e w3 ⟨rfl, rfl⟩
    go_wp2_with fail
    refine (rbyte_nil w2).mono ?_
    rintro e w3 ⟨rfl, rfl⟩
    go_wp2_with fail
    refine (ruint_nil w2).mono ?_
    rintro e w3 ⟨rfl, rfl⟩
    go_wp2_with fail
    refine (rbool_nil w2).mono ?_
    rintro e w3 ⟨rfl, rfl⟩
    go_wp2_with fail
    refine (rtext_nil most w2).mono ?_
    rintro e w3 ⟨rfl, rfl⟩
    go_wp2_with fail
    refine (rleft_nil w2).mono ?_
    rintro e w3 ⟨rfl, rfl⟩
    go_wp2_with fail
    refine (rdone_nil w2).mono ?_
    rintro e w3 ⟨rfl, rfl⟩
    go_wp2
    go_ret
    exact ⟨rfl, hb4⟩
end Go.Proofs.Ytgadcongolldjaa.packNone
