/- Layer 1: the fixed fact that each statement begins with. -/
import Derived.Test.YtbadohcphadjfaaDoorParse
import Derived.Test.YtbadohcphadjfaaDoorText
namespace Go.Proofs.YtbadohcphadjfaaDoor
open Go.RowKit

def lA : List Pr := [(⟨#[97]⟩, ⟨#[49]⟩), (⟨#[98]⟩, ⟨#[50]⟩)]
theorem sortA : sortP [(⟨#[98]⟩, ⟨#[50]⟩), (⟨#[97]⟩, ⟨#[49]⟩)] = lA :=
  sortP_unique (List.Perm.swap _ _ _) (by
    simp only [lA, List.pairwise_cons, List.mem_cons, List.not_mem_nil, or_false, forall_eq, List.Pairwise.nil, and_true]
    exact ⟨by decide +kernel, fun a h => h.elim⟩)
theorem parseA : parseP ⟨#[98, 61, 50, 44, 97, 61, 49]⟩ = (lA, 0) := by
  have h1 : splitS 44 ⟨#[98, 61, 50, 44, 97, 61, 49]⟩ = [⟨#[98, 61, 50]⟩, ⟨#[97, 61, 49]⟩] := rfl
  have h2 : pairsP [⟨#[98, 61, 50]⟩, ⟨#[97, 61, 49]⟩] = [(⟨#[98]⟩, ⟨#[50]⟩), (⟨#[97]⟩, ⟨#[49]⟩)] := rfl
  have hg : Good [⟨#[98, 61, 50]⟩, ⟨#[97, 61, 49]⟩] := by
    intro x hx
    simp at hx
    rcases hx with rfl | rfl
    · exact ⟨_, rfl⟩
    · exact ⟨_, rfl⟩
  rw [parseP, if_neg (by decide), if_neg (by decide), h1, partsP_all hg (by decide), h2, makeP, sortA, if_pos (by decide +kernel)]
theorem textA : textL lA = [97, 61, 49, 44, 98, 61, 50] := by decide +kernel
theorem nameA : nameB ⟨#[111, 119, 110, 46, 120, 45, 49]⟩ = true := by decide +kernel
theorem keyA : keyB ⟨#[97, 49]⟩ = false := by decide +kernel

set_option maxRecDepth 100000 in
set_option maxHeartbeats 400000 in
theorem awake_any (w : World) :
    Calls Tryd.prog 8 #[] w fun e w' => e = .returned (.bool true) ∧ Below w.heap.size w w' := by
  have hp := parse_any ⟨#[98, 61, 50, 44, 97, 61, 49]⟩ w
  rw [parseA] at hp
  have Hp := Lib.hid hp
  have Hn := Lib.hid (name_any ⟨#[111, 119, 110, 46, 120, 45, 49]⟩)
  have Hk := Lib.hid (key_any ⟨#[97, 49]⟩)
  clear hp
  go_enter Tryd.func8, Tryd.ntmps8
  go_wp2_with fail
  refine Hp.out.mono ?_
  rintro e w1 ⟨v, rfl, hown, hb1⟩
  obtain ⟨A, c, rfl⟩ := own_slice hown
  have Ht := Lib.hid (text_any A 2 c lA w1 rfl (by decide) (RdP.of_own hown) (by rw [textA]; decide))
  clear hown Hp
  go_wp2_with fail
  refine Ht.out.mono ?_
  rintro e w2 ⟨rfl, hb2⟩
  rw [textA]
  clear Ht
  go_wp2_with fail
  refine (Hn.out _).mono ?_
  rintro e w3 ⟨rfl, hb3⟩
  rw [nameA]
  go_wp2_with fail
  refine (Hk.out _).mono ?_
  rintro e w4 ⟨rfl, hb4⟩
  rw [keyA]
  go_wp2
  go_ret
  exact ⟨rfl, ((hb1.trans (hb2.mono hb1.size)).trans (hb3.mono (Nat.le_trans hb1.size hb2.size))).trans (hb4.mono (Nat.le_trans (Nat.le_trans hb1.size hb2.size) hb3.size))⟩
end Go.Proofs.YtbadohcphadjfaaDoor
