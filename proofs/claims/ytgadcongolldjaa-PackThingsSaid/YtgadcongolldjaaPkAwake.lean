/- Layer 3: the fixed fact that each statement begins with. -/
import Derived.Test.YtgadcongolldjaaPkWtr
namespace Go.Proofs.Ytgadcongolldjaa
open Go.RowKit

theorem lebA : ([] ++ leb 300) ++ leb (zig (-1)) = [172, 2, 1] := by
  have h1 : leb 300 = [172, 2] := by rw [leb_ge (by decide), leb_lt (by decide)]
  have h2 : leb (zig (-1)) = [1] := leb_lt (by decide)
  rw [h1, h2]; rfl

set_option maxRecDepth 100000 in
set_option maxHeartbeats 400000 in
theorem pawake_any (w : World) :
    Calls Try.prog 8 #[] w fun e w' => e = .returned (.bool true) ∧ Below w.heap.size w w' := by
  have H0 := Lib.hid (Wtr.new w 26)
  have hba : Below w.heap.size w (w.alloc (.cells #[.slice none 0 0] 26)) := (Below.refl _ _).alloc (Nat.le_refl _) _
  go_enter Try.func8, Try.ntmps8
  go_wp2_with fail
  refine (wuint_at w.heap.size _ [] 300 rfl (by decide) _ H0.out (by simp)).mono ?_
  rintro e w1 ⟨rfl, v1, h1, h2⟩
  have H1 := Lib.hid h1
  have H2 := Lib.hid (hba.trans (h2.below (B := w.heap.size) (by simp) (Nat.le_refl _) (fun k hk => by cases hk)))
  clear h1 h2
  go_wp2_with fail
  refine (wint_any w.heap.size _ _ (-1) (by decide) (by decide) _ H1.out (by rw [List.nil_append, show leb 300 = [172, 2] by rw [leb_ge (by decide), leb_lt (by decide)]]; decide)).mono ?_
  rintro e w2 ⟨rfl, v2, h1, h2⟩
  rw [lebA] at h1
  have H3 := Lib.hid h1
  have H4 := Lib.hid (H2.out.trans (h2.below (B := w.heap.size) H2.out.size (Nat.le_refl _) (fun k hk => by have := H1.out.ne k hk; omega)))
  clear h1 h2
  go_wp2_with fail
  refine (wbytes_any w.heap.size _ _ _ H3.out (by decide)).mono ?_
  rintro e w3 ⟨v3, rfl, ho, hb⟩
  obtain ⟨A, c, rfl⟩ := ownB_slice ho
  have hcv := conv_any (A := A) (n := 3) (c := c) (l := [172, 2, 1]) (RdB.of_own ho) rfl (by
    rintro rfl
    rcases ho.2 with ⟨e, _⟩ | ⟨_, _, _, e, _⟩
    · injection e
    · injection e with e; cases e)
  have hs : strB [172, 2, 1] = ⟨#[172, 2, 1]⟩ := rfl
  rw [hs] at hcv
  have H5 := Lib.hid (H4.out.trans (hb.mono H4.out.size))
  clear ho hb hs
  go_wp2
  go_ret
  exact ⟨rfl, H5.out⟩
end Go.Proofs.Ytgadcongolldjaa
