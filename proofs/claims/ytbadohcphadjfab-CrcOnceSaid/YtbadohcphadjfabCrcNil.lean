/- Layer 2: (*Table).Seal where there is no table. -/
import Derived.Test.YtbadohcphadjfabCrcUnseal
namespace Go.Proofs.Ytbadohcphadjfab
open Go.RowKit

set_option maxRecDepth 100000 in
set_option maxHeartbeats 1000000 in
theorem seal_nil (A : Option Addr) (n c : Nat) (l : List Nat) (B : Nat) (w : World) (hn : n = l.length) (hm : n ≤ 1048576) (hr : RdB w B A l) (hB : B ≤ w.heap.size) :
    Calls Try.prog 9 #[.pointer none, .slice A n c] w fun e w' => ∃ v, e = .returned v ∧ w'.ownsRow w.heap.size 5 1 v (n + 4) (cellsB (l ++ [0, 0, 0, 0])) ∧ Below w.heap.size w w' := by
  have hba : Below w.heap.size w (w.alloc (.cells #[.slice A n c] 22)) := (Below.refl _ _).alloc (Nat.le_refl _) _
  have hsum := tsum_nil (.slice (some ⟨w.heap.size, 0, none⟩) 1 1) (w.alloc (.cells #[.slice A n c] 22))
  have Hn := Lib.hid hn
  have Hr := Lib.hid hr
  have Hba := Lib.hid hba
  have Hs := Lib.hid hsum
  have hp := fun w => put_any 0 w (by decide)
  have hy : four 0 = [0, 0, 0, 0] := by decide
  rw [hy] at hp
  have Hp : Hid (∀ w, Calls Try.prog 13 #[.int .u32 0] w fun e w' => e = .returned (.agg #[.int .u8 0, .int .u8 0, .int .u8 0, .int .u8 0]) ∧ Below w.heap.size w w') := hp
  clear hn hr hba hsum hp hy
  go_enter Try.func9, Try.ntmps9
  go_wp2_with fail
  refine Hs.out.mono ?_
  rintro e w2 ⟨rfl, rfl⟩
  go_wp2_with fail
  refine (Hp.out _).mono ?_
  rintro e w3 ⟨rfl, hb3⟩
  have hbw3 := Hba.out.trans (hb3.mono (by simp))
  have hsz3 := hbw3.size
  have hr3 := Lib.hid (Hr.out.below (hbw3.mono hB))
  clear Hp hb3
  go_wp2_with fail
  have hb4 : Below w3.heap.size w3 ((w3.alloc (.cells #[.int .u8 0, .int .u8 0, .int .u8 0, .int .u8 0] 33)).alloc (.cells #[.slice A n c, .slice (some ⟨w3.heap.size, 0, none⟩) 4 4] 22)) := ((Below.refl _ _).alloc (Nat.le_refl _) _).alloc (by simp) _
  have hq0 : ((w3.alloc (.cells #[.int .u8 0, .int .u8 0, .int .u8 0, .int .u8 0] 33)).alloc (.cells #[.slice A n c, .slice (some ⟨w3.heap.size, 0, none⟩) 4 4] 22)).cell? ⟨w3.heap.size + 1, 0, none⟩ = some (.slice A n c) := by rw [World.cell?_alloc_at _ _ _ _ (by simp)]; rfl
  have hq1 : ((w3.alloc (.cells #[.int .u8 0, .int .u8 0, .int .u8 0, .int .u8 0] 33)).alloc (.cells #[.slice A n c, .slice (some ⟨w3.heap.size, 0, none⟩) 4 4] 22)).cell? ⟨w3.heap.size + 1, 1, none⟩ = some (.slice (some ⟨w3.heap.size, 0, none⟩) 4 4) := by rw [World.cell?_alloc_at _ _ _ _ (by simp)]; rfl
  have hfour : RdB ((w3.alloc (.cells #[.int .u8 0, .int .u8 0, .int .u8 0, .int .u8 0] 33)).alloc (.cells #[.slice A n c, .slice (some ⟨w3.heap.size, 0, none⟩) 4 4] 22)) (w3.heap.size + 1) (some ⟨w3.heap.size, 0, none⟩) [0, 0, 0, 0] := fun _ =>
    ⟨w3.heap.size, 0, rfl, by omega, fun i x hx => by
      rw [World.cell?_alloc_past _ _ _ (by simp), World.cell?_alloc_at _ _ _ _ rfl]
      match i, hx with
      | 0, hx => cases hx; rfl
      | 1, hx => cases hx; rfl
      | 2, hx => cases hx; rfl
      | 3, hx => cases hx; rfl⟩
  have hlt4 : w3.heap.size + 1 < ((w3.alloc (.cells #[.int .u8 0, .int .u8 0, .int .u8 0, .int .u8 0] 33)).alloc (.cells #[.slice A n c, .slice (some ⟨w3.heap.size, 0, none⟩) 4 4] 22)).heap.size := by simp
  generalize ((w3.alloc (.cells #[.int .u8 0, .int .u8 0, .int .u8 0, .int .u8 0] 33)).alloc (.cells #[.slice A n c, .slice (some ⟨w3.heap.size, 0, none⟩) 4 4] 22)) = w4 at *
  have hbw4 := hbw3.trans (hb4.mono hsz3)
  refine (concat_any (w3.heap.size + 1) A n c l (some ⟨w3.heap.size, 0, none⟩) 4 4 [0, 0, 0, 0] (w3.heap.size + 1) w4 Hn.out rfl (by omega) ((hr3.out.below (hb4.mono (by omega))).more (by omega)) hfour (by omega) hlt4 hq0 hq1).mono ?_
  rintro e w5 ⟨v, rfl, hown, hb5⟩
  have Hown := Lib.hid hown
  have hsz4 := hbw4.size
  clear hown hq0 hq1
  go_wp2
  go_ret
  exact ⟨_, rfl, ownB_mono Hown.out hsz4, hbw4.trans (hb5.mono hsz4)⟩
end Go.Proofs.Ytbadohcphadjfab
