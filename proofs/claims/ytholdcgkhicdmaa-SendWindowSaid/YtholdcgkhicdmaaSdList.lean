/- Layer 10: send: the list of what is in flight. -/
import Derived.Test.YtholdcgkhicdmaaSdAwk
namespace Go.Proofs.Ytholdcgkhicdmaa
open Go.RowKit
set_option maxRecDepth 100000 in
set_option maxHeartbeats 400000 in
theorem fclone_any {S : Nat → Prop} {s n c : Nat} {A : Option Addr} {L : List Fg} (w : World) (hr : SdR w S s (.slice A n c) L) (hl : ∀ k, S k → k < w.heap.size) (hn : n = L.length) :
    Calls Try.prog 20 #[.slice A n c] w fun e w' => (∃ A' c', e = .returned (.slice A' n c')) ∧ Below w.heap.size w w' := by
  obtain ⟨i0, hi, hz0, hz1, hz2⟩ := info_parts Try.infoFgZ
  have q22 : ∀ (w : World) (a : Option Addr) (n c n' c' : Nat), (binOp .eql 31 (.slice a n c) (.slice none n' c')).run Try.prog w = .ok (.bool a.isNone) w := fun w a n c n' c' => Lib.run_eql_slice_nil w _ _ a n c n' c' Try.underlying31
  have hfw := hr.few
  rcases hr.row with ⟨h1, rfl⟩ | ⟨g, o, c', cur, h1, h2, -, h4, -, h6⟩
  · injection h1 with h1 h2 h3
    subst h1
    subst h2
    subst h3
    clear hr hl hfw hn
    go_enter Try.func20, Try.ntmps20
    go_wp2
    go_ret
    exact ⟨⟨none, 0, rfl⟩, Below.refl _ _⟩
  · injection h1 with h1 _ h3
    subst h1
    have hbA : Below w.heap.size w (w.alloc (.cells #[] 48)) := (Below.refl _ w).alloc (Nat.le_refl _) _
    have hs1 : Src (w.alloc (.cells #[] 48)) (some ⟨g, o, none⟩) n 6 (cellsF L) := ⟨by rw [hn, cellsF_length], fun _ => ⟨_, rfl, fun j u hj => by
      rw [Addr.add_lit]
      exact (cell_of_row _ _ (o + j) _ _ _ ((hbA.block g (hl g h2)).trans h4)).trans (h6 j u hj)⟩⟩
    have HS := Lib.hid hs1
    have Hm : Hid (n ≤ 100000) := by rw [hn]; exact hfw
    clear hs1 hr hl hn hfw h2 h4 h6 hbA
    go_enter Try.func20, Try.ntmps20
    go_wp2_with (at_builtin; refine wpList_append_src (base := w.heap.size) rfl _ _ rfl Try.underlying31 hi hz0 hz1 hz2 rfl (by decide) rfl (World.ownsRow_made _ #[] 0 (Nat.le_refl _) (Nat.zero_le _) rfl) rfl HS.out (cellsF_one _) (by have := Hm.out; unfold maxLen; omega) (by have := Hm.out; omega) (by simp) ?_; intro v1 w1 hr1 hg1 hb1; replace hb1 : Below w.heap.size w w1 := ((Below.refl _ w).alloc (Nat.le_refl _) _).grown hg1 (by simp) (fun q hq => by cases hq; exact Nat.le_refl _); replace hr1 := Lib.hid hr1)
    go_ret
    have h := hr1.out
    rw [Nat.zero_add] at h
    obtain ⟨A', c2, rfl⟩ := ownB_slice h
    exact ⟨⟨A', c2, rfl⟩, hb1⟩
section
variable {S : Nat → Prop} {s : Nat} {X : Sd} {L : List Fg}
set_option maxRecDepth 100000 in
set_option maxHeartbeats 400000 in
theorem sdlist_any (w : World) (h : SdAt w S s X L) :
    Calls Try.prog 11 #[.pointer (some ⟨s, 0, none⟩)] w fun e w' => (∃ A c, e = .returned (.slice A L.length c)) ∧ Below w.heap.size w w' := by
  obtain ⟨v, h1, h2⟩ := h.row
  obtain ⟨A, c, rfl⟩ := h2.slice
  have HC := Lib.hid (fclone_any w h2 h.lt rfl)
  obtain ⟨n, hn⟩ : ∃ n, n = L.length := ⟨_, rfl⟩
  rw [← hn] at HC h1 ⊢
  have c4 : w.cell? ⟨s, 4, none⟩ = some (.slice A n c) := cell_of_row _ _ 4 _ _ _ h1
  clear h h1 h2 hn
  go_enter Try.func11, Try.ntmps11
  go_wp2_with fail
  refine HC.out.mono ?_
  rintro _ w1 ⟨⟨A', c', rfl⟩, hb⟩
  have HB := Lib.hid hb
  clear hb HC
  go_wp2
  go_ret
  exact ⟨⟨A', c', rfl⟩, HB.out⟩
end
end Go.Proofs.Ytholdcgkhicdmaa
