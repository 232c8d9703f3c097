/- Layer 2: the fixed fact that each statement begins with. -/
import Derived.Test.YtbadohcphadjfabCrcSeal
import Derived.Lib.SlBytesConst
namespace Go.Proofs.Ytbadohcphadjfab
open Go.RowKit

theorem sumA : sumN [49, 50, 51, 52, 53, 54, 55, 56, 57] = 3421780262 := by decide +kernel

set_option maxHeartbeats 400000 in
theorem cawake_any (w : World) :
    Calls Try.prog 7 #[] w fun e w' => e = .returned (.bool true) ∧ Below w.heap.size w w' := by
  have Hn := Lib.hid (new_any w)
  have hcv := fun (w : World) (C : Array Value) (n c : Nat) => Lib.run_convert_bytes_const (P := Try.prog) w 22 5 C n c Try.underlying22 Try.underlying5
  go_enter Try.func7, Try.ntmps7
  go_wp2_with fail
  refine Hn.out.mono ?_
  rintro e w1 ⟨rfl, hb1, hsz1, hT1⟩
  have HT1 := Lib.hid hT1
  have Hsz := Lib.hid hsz1
  clear hT1 hsz1
  have hba : Below w1.heap.size w1 ((w1.alloc (.cells #[.int .u8 49, .int .u8 50, .int .u8 51, .int .u8 52, .int .u8 53, .int .u8 54, .int .u8 55, .int .u8 56, .int .u8 57] 5 (9, 10))).alloc (.cells #[.slice (some ⟨w1.heap.size, 0, none⟩) 9 9] 22)) := ((Below.refl _ _).alloc (Nat.le_refl _) _).alloc (by simp) _
  have hq0 : ((w1.alloc (.cells #[.int .u8 49, .int .u8 50, .int .u8 51, .int .u8 52, .int .u8 53, .int .u8 54, .int .u8 55, .int .u8 56, .int .u8 57] 5 (9, 10))).alloc (.cells #[.slice (some ⟨w1.heap.size, 0, none⟩) 9 9] 22)).cell? ⟨w1.heap.size + 1, 0, none⟩ = some (.slice (some ⟨w1.heap.size, 0, none⟩) 9 9) := by rw [World.cell?_alloc_at _ _ _ _ (by simp)]; rfl
  have hnine : RdB ((w1.alloc (.cells #[.int .u8 49, .int .u8 50, .int .u8 51, .int .u8 52, .int .u8 53, .int .u8 54, .int .u8 55, .int .u8 56, .int .u8 57] 5 (9, 10))).alloc (.cells #[.slice (some ⟨w1.heap.size, 0, none⟩) 9 9] 22)) (w1.heap.size + 1) (some ⟨w1.heap.size, 0, none⟩) [49, 50, 51, 52, 53, 54, 55, 56, 57] := fun _ =>
    ⟨w1.heap.size, 0, rfl, by omega, fun i x hx => by
      rw [World.cell?_alloc_past _ _ _ (by simp), World.cell?_alloc_mark]
      match i, hx with
      | 0, hx => cases hx; rfl
      | 1, hx => cases hx; rfl
      | 2, hx => cases hx; rfl
      | 3, hx => cases hx; rfl
      | 4, hx => cases hx; rfl
      | 5, hx => cases hx; rfl
      | 6, hx => cases hx; rfl
      | 7, hx => cases hx; rfl
      | 8, hx => cases hx; rfl⟩
  go_wp2_with fail
  generalize ((w1.alloc (.cells #[.int .u8 49, .int .u8 50, .int .u8 51, .int .u8 52, .int .u8 53, .int .u8 54, .int .u8 55, .int .u8 56, .int .u8 57] 5 (9, 10))).alloc (.cells #[.slice (some ⟨w1.heap.size, 0, none⟩) 9 9] 22)) = w2 at *
  have hsum := tsum_any w.heap.size 0 0 0 (w1.heap.size + 1) (by decide) (some ⟨w1.heap.size, 0, none⟩) 9 9 [49, 50, 51, 52, 53, 54, 55, 56, 57] (w1.heap.size + 1) w2 (HT1.out.below hba) rfl (by decide) (by decide) (by decide) hnine (by intro x hx; simp at hx; omega) (by intro _ a ha e; cases ha; have := Hsz.out; simp at e; omega) (by have := Hsz.out; omega) hq0
  rw [sumA] at hsum
  have Hs := Lib.hid hsum
  clear hsum hq0 hnine
  refine Hs.out.mono ?_
  rintro e w3 ⟨rfl, ht3, _⟩
  have hb3 : Below w.heap.size w w3 := (hb1.trans (hba.mono hb1.size)).grown ht3.grown (by have := hb1.size; have := hba.size; omega) (fun k hk => by cases hk; exact Nat.le_refl _)
  go_wp2
  go_ret
  exact ⟨rfl, hb3⟩
end Go.Proofs.Ytbadohcphadjfab
