/- Layer 11: RecvOrder in numbers. -/
import Derived.Test.YtileaoanekphaaaRvAwk
namespace Go.Proofs.Ytileaoanekphaaa
open Go.RowKit

theorem MI.pos {w : World} {b k q : Nat} {F : Hs} {x : Hd} (h : MI w b F k) (hx : F q = some x) : 0 < k := by
  obtain ⟨D, h1, h2, h3⟩ := h.own
  have hs := Maps.size_del (k := keyQ q) (h1.tidy lawU64)
  rw [(h2.yes q x hx).1, if_pos rfl, h3] at hs
  omega
/-- what RecvOrder keeps: t taken over, k held, whose numbers are told by the items themselves -/
structure OW (w w' : World) (s m W i t k : Nat) (F : Hs) : Prop where
  st : ∃ o, o ≤ i ∧ RvAt w' s m ⟨W, t, o⟩ F k
  bl : Below w.heap.size w w'
  cnt : t + k ≤ i
  num : ∀ q h, F q = some h → h.x.q = 1 + q
  new : w.heap.size ≤ s ∧ w.heap.size ≤ m
section
variable {w w1 w2 : World} {s m W i t k : Nat} {F : Hs}
theorem OW.below (h : OW w w1 s m W i t k F) (hb : Below w1.heap.size w1 w2) : OW w w2 s m W i t k F := by
  obtain ⟨o, h1, h2⟩ := h.st
  exact ⟨⟨o, h1, h2.below hb⟩, h.bl.trans (hb.mono h.bl.size), h.cnt, h.num, h.new⟩
theorem OW.more (h : OW w w1 s m W i t k F) : OW w w1 s m W (i + 1) t k F := by
  obtain ⟨o, h1, h2⟩ := h.st
  exact ⟨⟨o, by omega, h2⟩, h.bl, by have := h.cnt; omega, h.num, h.new⟩
theorem ow_take {n q : Nat} {x : It} {A : Option Addr} {N c : Nat} (h : OW w w1 s m W i t k F) (hi : i ≤ 1000) (hW : W ≤ 64) (hn : n = t + 1) (hq : q < n + W) (hx : itemN x = 0) (hxl : x.l.length = 0) (hN : N = 0) (hxq : x.q = 1 + q) :
    Calls Try.prog 12 #[.pointer (some ⟨s, 0, none⟩), .int .u64 q, .agg #[.bool x.g, .int .u8 x.o, .int .u64 x.q, .int .u64 x.t, .string x.r, .slice A N c, .int .u8 x.s, .int .u8 x.p, .int .i64 x.v, .int .u8 x.w, .int .u8 x.ga, .int .u64 x.gf, .int .u64 x.gt]] w1 fun e w' => ∃ (z : Int) (k' : Nat) (F' : Hs), e = .returned (.int .i64 z) ∧ OW w w' s m W (i + 1) t k' F' := by
  obtain ⟨o, h1, h2⟩ := h.st
  have hc := h.cnt
  by_cases ho : q < n ∨ (F q).isSome = true
  · refine (rtake_old w1 h2 hn (show t ≤ _ by omega) (show o ≤ _ by omega) (by omega) ho).mono ?_
    rintro e w' ⟨rfl, h3, h4⟩
    exact ⟨17, k, F, rfl, ⟨o + 1, by omega, h3⟩, only_two_below h.bl h4 h.new.1 h.new.2, by omega, h.num, h.new⟩
  · have hF : F q = none := by
      cases e : F q with
      | none => rfl
      | some y => exact absurd (.inr (by rw [e]; rfl)) ho
    subst hN
    refine (rtake_ok w1 h2 hn (show t ≤ _ by omega) hW (by omega) (by omega) (by omega) hF (show q - n < W by omega) hx hxl.symm (fun _ => rfl) (by decide) (rd_zero hxl)).mono ?_
    rintro e w' ⟨rfl, A2, c2, h3, -, h4⟩
    refine ⟨0, k + 1, _, rfl, ⟨o, by omega, h3⟩, only_two_below h.bl h4 h.new.1 h.new.2, by omega, fun i y hy => ?_, h.new⟩
    unfold putF at hy
    split at hy
    · rename_i e
      injection hy with hy
      subst hy
      rw [e]; exact hxq
    · exact h.num i y hy
theorem ow_none {n : Nat} (h : OW w w1 s m W i t k F) (hi : i ≤ 1000) (hn : n = t + 1) (hF : F n = none) :
    Calls Try.prog 14 #[.pointer (some ⟨s, 0, none⟩)] w1 fun e w' => e = .returned (.tuple #[.agg #[.bool false, .int .u8 0, .int .u64 0, .int .u64 0, .string ⟨#[]⟩, .slice none 0 0, .int .u8 0, .int .u8 0, .int .i64 0, .int .u8 0, .int .u8 0, .int .u64 0, .int .u64 0], .bool false]) ∧ OW w w' s m W i t k F := by
  obtain ⟨o, h1, h2⟩ := h.st
  have hc := h.cnt
  exact (rpeek_none w1 h2 hn (show t ≤ _ by omega) hF).mono fun e w' ⟨h3, h4⟩ => ⟨h3, h.below h4⟩
theorem ow_some {n : Nat} {y : Hd} (h : OW w w1 s m W i t k F) (hi : i ≤ 1000) (hn : n = t + 1) (hF : F n = some y) :
    Calls Try.prog 14 #[.pointer (some ⟨s, 0, none⟩)] w1 fun e w' => ∃ (x : It) (A : Option Addr) (N c : Nat), x.q = 1 + n ∧ e = .returned (.tuple #[.agg #[.bool x.g, .int .u8 x.o, .int .u64 x.q, .int .u64 x.t, .string x.r, .slice A N c, .int .u8 x.s, .int .u8 x.p, .int .i64 x.v, .int .u8 x.w, .int .u8 x.ga, .int .u64 x.gf, .int .u64 x.gt], .bool true]) ∧ OW w w' s m W i t k F := by
  obtain ⟨o, h1, h2⟩ := h.st
  obtain ⟨x, A, c⟩ := y
  have hc := h.cnt
  refine (rpeek_some w1 h2 hn (show t ≤ _ by omega) hF).mono ?_
  rintro e w' ⟨A2, c2, rfl, -, h4⟩
  exact ⟨x, A2, _, c2, h.num n _ hF, rfl, h.below h4⟩
theorem ow_next {n : Nat} {y : Hd} (h : OW w w1 s m W i t k F) (hi : i ≤ 1000) (hn : n = t + 1) (hF : F n = some y) :
    Calls Try.prog 9 #[.pointer (some ⟨s, 0, none⟩)] w1 fun e w' => e = .returned (.int .i64 0) ∧ OW w w' s m W i n (k - 1) (delF F n) := by
  obtain ⟨o, h1, h2⟩ := h.st
  have hc := h.cnt
  have hk := h2.mi.pos hF
  refine (rnext_some w1 h2 hn (show t ≤ _ by omega) hF).mono ?_
  rintro e w' ⟨rfl, h3, h4⟩
  refine ⟨rfl, ⟨o, h1, h3⟩, only_two_below h.bl h4 h.new.1 h.new.2, by omega, fun i x hx => ?_, h.new⟩
  unfold delF at hx
  split at hx
  · cases hx
  · exact h.num i x hx
theorem ow_counts {n : Nat} (h : OW w w1 s m W i t k F) (hi : i ≤ 1000) (hn : n = t + 1) :
    Calls Try.prog 17 #[.pointer (some ⟨s, 0, none⟩)] w1 fun e w' => ∃ a b : Int, e = .returned (.tuple #[.int .u64 n, .int .i64 a, .int .u64 b]) ∧ OW w w' s m W i t k F := by
  obtain ⟨o, h1, h2⟩ := h.st
  have hc := h.cnt
  exact (rcounts_any w1 h2 hn (show t ≤ _ by omega)).mono fun e w' ⟨h3, h4⟩ => ⟨_, _, h3, h.below h4⟩
end
/-- the item that is made of a number alone -/
def seqS (q : Nat) : Sm := ⟨false, 0, 0, 0, q, 0, 0, 0, 0, 0, false⟩
theorem seqS_item (q : Nat) (hq : q < 65536) (w : World) : Calls Try.prog 11 #[.agg #[.bool false, .int .u8 0, .int .u8 0, .int .u8 0, .int .u16 q, .int .u16 0, .int .u16 0, .int .u8 0, .int .u8 0, .int .u8 0, .bool false]] w fun e w' => ∃ (x : It) (A : Option Addr) (c : Nat),
    e = .returned (.agg #[.bool x.g, .int .u8 x.o, .int .u64 x.q, .int .u64 x.t, .string x.r, .slice A 0 c, .int .u8 x.s, .int .u8 x.p, .int .i64 x.v, .int .u8 x.w, .int .u8 x.ga, .int .u64 x.gf, .int .u64 x.gt]) ∧ itemN x = 0 ∧ x.l.length = 0 ∧ x.q = 1 + q ∧ Below w.heap.size w w' := by
  have hok : OkS (seqS q) := ⟨Nat.zero_lt_succ _, Nat.zero_lt_succ _, Nat.zero_lt_succ _, hq, Nat.zero_lt_succ _, Nat.zero_lt_succ _, Nat.zero_lt_succ _, Nat.zero_lt_succ _, Nat.zero_lt_succ _⟩
  refine (smallItem_any (seqS q) hok w).mono ?_
  rintro e w' ⟨A, n, c, rfl, hn, -, hb⟩
  have hl : (smallI (seqS q)).l.length = 0 := rfl
  rw [hl] at hn
  subst hn
  exact ⟨_, A, c, rfl, smallI_right _ hok, hl, rfl, hb⟩
end Go.Proofs.Ytileaoanekphaaa
