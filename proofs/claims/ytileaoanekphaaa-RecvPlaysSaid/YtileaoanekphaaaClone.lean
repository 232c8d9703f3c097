/- slices.Clone of pairs (the library's text, walked). -/
import Derived.Test.YtileaoanekphaaaMem
import Derived.Test.YtileaoanekphaaaApp
import Derived.WalkSpells
import Derived.Lib.SliceRun
namespace Go.Proofs.Ytileaoanekphaaa
open Go.RowKit

theorem own_below {w w' : World} {base : Nat} {e : TypeId} {size n : Nat} {v : Value} {xs : List Value} (h : w.ownsRow base e size v n xs) (hb : Below w.heap.size w w') : w'.ownsRow base e size v n xs :=
  h.kept (row := none) ⟨hb.os, hb.tape, hb.output, hb.size, fun k hk _ => hb.block k hk⟩ (by
    rcases h.2 with ⟨rfl, _⟩ | ⟨g, cap, cur, rfl, _⟩
    · exact Or.inl rfl
    · exact Or.inr (by simp [Value.ownBlock]))

theorem own_slice {W : World} {base : Nat} {e : TypeId} {size n : Nat} {v : Value} {xs : List Value} (h : W.ownsRow base e size v n xs) : ∃ A c, v = .slice A n c := by
  rcases h.2 with ⟨rfl, rfl⟩ | ⟨g, cap, cur, rfl, _⟩
  · exact ⟨none, 0, rfl⟩
  · exact ⟨_, _, rfl⟩

def OkA (A : Option Addr) (n : Nat) : Prop := (A = none → n = 0) ∧ ∀ a, A = some a → ∃ b o, a = ⟨b, o, none⟩

theorem src_of_rd {w : World} {B : Nat} {A : Option Addr} {l : List Pr} {n : Nat} (h : RdP w B A l) (hn : n = l.length) : Src w A n 2 (cellsP l) := by
  subst hn
  refine ⟨cellsP_length l, fun h0 => ?_⟩
  obtain ⟨b, o, e, _, hc⟩ := h h0
  refine ⟨_, e, fun j u hj => ?_⟩
  have hjl : j < l.length * 2 := by
    have := (List.getElem?_eq_some_iff.1 hj).1
    rwa [cellsP_length] at this
  have hp : l[j / 2]? = some (l[j / 2]'(by omega)) := List.getElem?_eq_getElem (by omega)
  obtain ⟨c0, c1⟩ := cellsP_get l (j / 2) _ hp
  obtain ⟨d0, d1⟩ := hc _ _ hp
  rw [Addr.add_lit]
  rcases Nat.mod_two_eq_zero_or_one j with hm2 | hm2
  · rw [show j / 2 * 2 = j from by omega] at c0 d0
    rw [d0, ← c0, hj]
  · rw [show j / 2 * 2 + 1 = j from by omega] at c1
    rw [show o + j / 2 * 2 + 1 = o + j from by omega] at d1
    rw [d1, ← c1, hj]
theorem Try.infoP : (Try.prog.info? 66).map (fun i => (i.zero, i.size, i.bytes)) = some (some (.agg #[.string ⟨#[]⟩, .string ⟨#[]⟩]), 2, 32) := by kernel_rfl

set_option maxRecDepth 100000 in
set_option maxHeartbeats 400000 in
/-- a copy, nil or not -/
theorem clone_any (A : Option Addr) (n c : Nat) (l : List Pr) (w : World) (hn : n = l.length) (hA : A = none → n = 0) (hm : n * 32 ≤ 140737488351232) (hr : RdP w w.heap.size A l) :
    Calls Try.prog 32 #[.slice A n c] w fun e w' => ∃ v, e = .returned v ∧ w'.ownsRow w.heap.size 66 2 v n (cellsP l) ∧ Below w.heap.size w w' := by
  obtain ⟨i0, hi, hz0, hz1, hz2⟩ := info_parts Try.infoP
  have q22 : ∀ (w : World) (a : Option Addr) (n c n' c' : Nat), (binOp .eql 36 (.slice a n c) (.slice none n' c')).run Try.prog w = .ok (.bool a.isNone) w := fun w a n c n' c' => Lib.run_eql_slice_nil w _ _ a n c n' c' Try.underlying36
  cases A with
  | none =>
    obtain rfl := hA rfl
    obtain rfl : l = [] := List.eq_nil_of_length_eq_zero hn.symm
    clear hm hn hA hr
    go_enter Try.func32, Try.ntmps32
    go_wp2
    go_ret
    exact ⟨_, rfl, World.ownsRow_nil _ _ _ _, Below.refl _ _⟩
  | some a =>
    have hs1 : Src (w.alloc (.cells #[] 66)) (some a) n 2 (cellsP l) := src_of_rd (hr.below ((Below.refl _ w).alloc (Nat.le_refl _) _)) hn
    have HS := Lib.hid hs1
    have Hm := Lib.hid hm
    clear hs1 hr hA hn hm
    go_enter Try.func32, Try.ntmps32
    go_wp2_with (at_builtin; refine wpList_append_src (base := w.heap.size) rfl _ _ rfl Try.underlying36 hi hz0 hz1 hz2 rfl (by decide) rfl (World.ownsRow_made _ #[] 0 (Nat.le_refl _) (Nat.zero_le _) rfl) rfl HS.out (cellsP_one _) (by have := Hm.out; unfold maxLen; omega) (by have := Hm.out; omega) (by simp) ?_; intro v1 w1 hr1 hg1 hb1; replace hb1 : Below w.heap.size w w1 := ((Below.refl _ w).alloc (Nat.le_refl _) _).grown hg1 (by simp) (fun q hq => by cases hq; exact Nat.le_refl _); replace hr1 := Lib.hid hr1; clear hg1)
    go_ret
    have h := hr1.out
    rw [Nat.zero_add, List.nil_append] at h
    exact ⟨_, rfl, h, hb1⟩
end Go.Proofs.Ytileaoanekphaaa
