/- Layer 7: JournalLong's walk. -/
import Derived.Test.YtgcfofnlgdfmoaaJlAwake
namespace Go.Proofs.Ytgcfofnlgdfmoaa
open Go.RowKit Go.Maps
theorem own_cap7 {w : World} {base : Nat} {e : TypeId} {size n c : Nat} {A : Option Addr} {xs : List Value} (h : w.ownsRow base e size (.slice A n c) n xs) : n ≤ c := by
  rcases h.2 with ⟨e1, rfl⟩ | ⟨g, cap, cur, e1, _, _, hnc, _⟩
  · exact Nat.zero_le _
  · injection e1 with _ _ e3
    omega
abbrev nmJ : ByteArray := ⟨#[106]⟩
theorem nmJ_size : nmJ.size ≤ maxLen := by decide +kernel
/-- bytes whose length says too much -/
theorem takeJ_much (l : List Nat) : takeJ ([1, 0, 8, 0, 0, 0, 0, 0] ++ l) = none := by
  have h4 : ([1, 0, 8, 0, 0, 0, 0, 0] ++ l).take 4 = [1, 0, 8, 0] := rfl
  have hn : takeN [1, 0, 8, 0] = 524289 := by decide
  unfold takeJ
  rw [if_neg (by rw [List.length_append]; show ¬ (8 + l.length < 8); omega), h4, hn, if_pos (.inl (by decide))]
namespace journalLong

end journalLong
end Go.Proofs.Ytgcfofnlgdfmoaa
