/- Layer 1: labels as a text: the document's own Text. -/
import Derived.Test.YtkkilfoncdbciaaRead
namespace Go.Proofs.Ytkkilfoncdbciaa
open Go.RowKit

/-- one pair as a text; pairs as a text -/
def pairL (p : Pr) : List UInt8 := p.1.data.toList ++ 61 :: p.2.data.toList
def textL : List Pr → List UInt8
  | [] => []
  | p :: r => pairL p ++ r.flatMap fun q => 44 :: pairL q
/-- what the k-th pair adds -/
def addL (k : Nat) (p : Pr) : List UInt8 := (if k = 0 then [] else [44]) ++ pairL p

theorem textL_snoc (l : List Pr) (p : Pr) : textL (l ++ [p]) = textL l ++ addL l.length p := by
  cases l with
  | nil => simp [textL, addL]
  | cons q r => simp [textL, addL]
theorem textL_succ {l : List Pr} {k : Nat} {p : Pr} (hp : l[k]? = some p) : textL (l.take (k + 1)) = textL (l.take k) ++ addL k p := by
  obtain ⟨h, rfl⟩ := List.getElem?_eq_some_iff.1 hp
  rw [List.take_succ_eq_append_getElem h, textL_snoc, List.length_take, Nat.min_eq_left (by omega)]
theorem textL_mono (l : List Pr) (k : Nat) : (textL (l.take k)).length ≤ (textL l).length := by
  induction l generalizing k with
  | nil => simp
  | cons p r ih =>
    cases k with
    | zero => simp [textL]
    | succ k =>
      simp only [List.take_succ_cons, textL, List.length_append, List.length_flatMap]
      have : ((List.take k r).map fun q => (44 :: pairL q).length).sum ≤ (r.map fun q => (44 :: pairL q).length).sum := by
        have e : r = r.take k ++ r.drop k := (List.take_append_drop k r).symm
        conv => rhs; rw [e]
        rw [List.map_append, List.sum_append]
        omega
      omega

set_option maxRecDepth 100000 in
set_option maxHeartbeats 1000000 in
theorem reftext_any (A : Option Addr) (n c : Nat) (l : List Pr) (w : World) (hn : n = l.length) (hm : n ≤ maxLen) (hr : RdP w w.heap.size A l) (hlen : (textL l).length ≤ 140737488355328) :
    Calls Try.prog 26 #[.slice A n c] w fun e w' => e = .returned (.string ⟨(textL l).toArray⟩) ∧ Below w.heap.size w w' := by
  have Hn := Lib.hid hn
  have Hlen := Lib.hid hlen
  clear hn hlen
  unfold maxLen at hm
  go_enter Try.func26, Try.ntmps26
  go_wp2
  go_loopw [3, 4] (fun v i wr => ∃ (k : Nat) (s : ByteArray), k ≤ n ∧ i = .int .i64 k ∧ v = .string s ∧ Hid (s.data.toList = textL (l.take k)) ∧ Below w.heap.size w wr) (fun _ i _ => n - (intOf i).toNat)
  case atStart => exact ⟨0, ⟨#[]⟩, Nat.zero_le _, rfl, rfl, rfl, Below.refl _ _⟩
  case round =>
    obtain ⟨k, s, hk, rfl, rfl, Hs, hbw⟩ := hrel
    by_cases hlt : k < n
    · obtain ⟨b, o, p, rfl, hb, hp, hc1, hc2⟩ := (hr.below hbw).at_ (k := k) (by have := Hn.out; omega)
      have Hsuc := Lib.hid (textL_succ hp)
      have Hsz : s.size + 1 + p.1.size + 1 + p.2.size ≤ 140737488355329 := by
        have h1 := textL_mono l (k + 1)
        rw [Hsuc.out, ← Hs.out] at h1
        have h2 := Hlen.out
        simp only [addL, pairL, List.length_append, List.length_cons, Array.length_toList] at h1
        have e1 : s.data.size = s.size := rfl
        have e2 : p.1.data.size = p.1.size := rfl
        have e3 : p.2.data.size = p.2.size := rfl
        omega
      clear hp hr
      rcases Nat.eq_zero_or_pos k with h0 | h0
      · subst h0
        simp only [Nat.zero_mul, Nat.add_zero] at hc1 hc2
        have a1 : s.size + p.1.size ≤ 9223372036854775807 := by omega
        have a2 : s.size + p.1.size + 1 ≤ 9223372036854775807 := by omega
        have a3 : s.size + p.1.size + 1 + p.2.size ≤ 9223372036854775807 := by omega
        clear Hsz
        go_wp2
        go_quiet (fail)
        go_wp2
        refine ⟨⟨1, _, by omega, rfl, rfl, ?_, below_drewN hbw _⟩, by simp [intOf]; omega⟩
        have e := Hsuc.out
        simp only [Nat.zero_add] at e
        show _ = textL (l.take 1)
        rw [e, ← Hs.out]
        simp [addL, pairL]
      · have hb0 : decide ((0 : Int) < (k : Int)) = true := decide_eq_true (by omega)
        have hk0 : Hid (k ≠ 0) := by show k ≠ 0; omega
        have a0 : s.size + 1 ≤ 9223372036854775807 := by omega
        have a1 : s.size + 1 + p.1.size ≤ 9223372036854775807 := by omega
        have a2 : s.size + 1 + p.1.size + 1 ≤ 9223372036854775807 := by omega
        have a3 : s.size + 1 + p.1.size + 1 + p.2.size ≤ 9223372036854775807 := by omega
        clear Hsz
        go_wp2
        go_quiet (fail)
        go_wp2
        refine ⟨⟨k + 1, _, by omega, by go_num, rfl, ?_, below_drewN hbw _⟩, by simp [intOf]; omega⟩
        show _ = textL (l.take (k + 1))
        rw [Hsuc.out, ← Hs.out]
        simp [addL, pairL, hk0.out]
    · have hk' : l.take k = l := List.take_of_length_le (by have := Hn.out; omega)
      rw [hk'] at Hs
      clear hr hk'
      go_wp2
      go_ret
      refine ⟨?_, hbw⟩
      show Ending.returned (.string s) = _
      rw [← Hs.out]
end Go.Proofs.Ytkkilfoncdbciaa
