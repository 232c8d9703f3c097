/- Layer 13: texts as numbers that may be below 0: the program's own Signed and the document's. -/
import Derived.Test.YthggaedpbmjclaaDoorCdRNum
namespace Go.Proofs.YthggaedpbmjclaaDoor
open Go.RowKit Go.Proofs

/-- does it begin with a minus? -/
def minusB (l : List UInt8) : Bool := l.head? == some 45
def signF (l : List UInt8) : Option Int := if minusB l then (match numN (l.drop 1) 9223372036854775808 with | some n => if n = 0 then none else some (-(n : Int)) | none => none) else (match numN l 9223372036854775807 with | some n => some (n : Int) | none => none)
def signV (o : Option Int) : Value := match o with
  | none => .tuple #[.int .i64 0, .bool false]
  | some z => .tuple #[.int .i64 z, .bool true]
theorem hasPrefix_minus (l : List UInt8) : Lib.hasPrefix l [45] = minusB l := by
  unfold Lib.hasPrefix minusB
  cases l with
  | nil => rfl
  | cons a r =>
    show ((45 == a) && true) = (some a == some 45)
    rw [Bool.and_true, Bool.eq_iff_iff]
    constructor
    · intro h; rw [beq_iff_eq] at h; rw [beq_iff_eq, ← h]
    · intro h; rw [beq_iff_eq] at h; injection h with h; rw [beq_iff_eq, h]
theorem minus_pos {s : ByteArray} (h : minusB s.data.toList = true) : 0 < s.size := by
  unfold minusB at h
  have hl : s.data.toList.length = s.size := by simp
  cases e : s.data.toList with
  | nil => rw [e] at h; cases h
  | cons a b => rw [e] at hl; simp at hl; omega
theorem minus_data (s : ByteArray) : (s.extract 1 s.size).data.toList = s.data.toList.drop 1 := by
  rw [Lib.extract_data, List.take_of_length_le (by simp)]
set_option maxRecDepth 100000 in
set_option maxHeartbeats 400000 in
theorem cutp_any (s : ByteArray) (w : World) (hs : s.size ≤ 9223372036854775807) :
    Calls Tryd.prog 28 #[.string s, .string ⟨#[45]⟩] w fun e w' => e = .returned (.tuple #[.string (if minusB s.data.toList then s.extract 1 s.size else s), .bool (minusB s.data.toList)]) ∧ w = w' := by
  have h1 : Calls Tryd.prog 42 #[.string s, .string ⟨#[45]⟩] w fun e w' => e = .returned (.tuple #[.string (if minusB s.data.toList then s.extract 1 s.size else s), .bool (minusB s.data.toList)]) ∧ w = w' := by
    have hp := Tryd.stringslite_HasPrefix s ⟨#[45]⟩ w
    rw [show Lib.hasPrefix s.data.toList (⟨#[45]⟩ : ByteArray).data.toList = minusB s.data.toList from hasPrefix_minus _] at hp
    cases e : minusB s.data.toList with
    | false =>
      rw [e] at hp
      have HP := Lib.hid hp
      clear hp e
      go_enter Tryd.func42, Tryd.ntmps42
      go_wp2_with fail
      refine HP.out.mono ?_
      rintro _ w1 ⟨rfl, hw⟩
      obtain rfl : w = w1 := hw.symm
      go_wp2
      go_ret2
      exact ⟨rfl, rfl⟩
    | true =>
      rw [e] at hp
      have HP := Lib.hid hp
      have hpos := minus_pos e
      have k1 : 1 ≤ s.size := hpos
      have k2 : (1 : Int) ≤ (s.size : Int) := by omega
      clear hp e
      go_enter Tryd.func42, Tryd.ntmps42
      go_wp2_with fail
      refine HP.out.mono ?_
      rintro _ w1 ⟨rfl, hw⟩
      obtain rfl : w = w1 := hw.symm
      go_wp2
      go_ret2
      exact ⟨rfl, rfl⟩
  generalize (if minusB s.data.toList then s.extract 1 s.size else s) = t at h1 ⊢
  generalize minusB s.data.toList = b at h1 ⊢
  have H := Lib.hid h1
  clear h1
  go_enter Tryd.func28, Tryd.ntmps28
  go_wp2_with fail
  refine H.out.mono ?_
  rintro _ w1 ⟨rfl, rfl⟩
  go_wp2
  go_ret2
  exact ⟨rfl, rfl⟩
theorem numN_le {l : List UInt8} {m n : Nat} (h : numN l m = some n) : n ≤ m := by
  unfold numN at h
  split at h
  · split at h
    · split at h
      · rename_i h2; injection h with h; omega
      · cases h
    · cases h
  · cases h
set_option maxRecDepth 100000 in
set_option maxHeartbeats 1000000 in
theorem csign_any (s : ByteArray) (w : World) (hs : s.size ≤ 9223372036854775807) (hg : GlC w) :
    Calls Tryd.prog 16 #[.string s] w fun e w' => e = .returned (signV (signF s.data.toList)) ∧ Below w.heap.size w w' := by
  have hc := cutp_any s w hs
  obtain ⟨O, hO⟩ : ∃ O, O = signF s.data.toList := ⟨_, rfl⟩
  rw [← hO]
  cases e : minusB s.data.toList with
  | false =>
    rw [e] at hc
    have HC := Lib.hid hc
    have HN := Lib.hid (cnum_any s 9223372036854775807 w hs hg)
    have HO : Hid (O = match numN s.data.toList 9223372036854775807 with | some n => some (n : Int) | none => none) := by
      show O = _
      rw [hO]; unfold signF; rw [e]; rfl
    clear hc hO e hg
    go_enter Tryd.func16, Tryd.ntmps16
    go_wp2_with fail
    refine HC.out.mono ?_
    rintro _ w1 ⟨rfl, rfl⟩
    go_wp2_with fail
    refine HN.out.mono ?_
    rintro _ w1 ⟨rfl, hb1⟩
    have HB := Lib.hid hb1
    clear hb1 HC HN
    cases hn : numN s.data.toList 9223372036854775807 with
    | none =>
      have E : Hid (O = none) := by show O = _; rw [HO.out, hn]
      clear hn HO
      unfold numV
      go_wp2
      go_ret2
      exact ⟨by rw [E.out]; rfl, HB.out⟩
    | some n =>
      have E : Hid (O = some (n : Int)) := by show O = _; rw [HO.out, hn]
      have hle := numN_le hn
      have k1 : IntKind.i64.wrap (n : Int) = (n : Int) := by rw [IntKind.wrap_i64]; omega
      clear hn HO
      unfold numV
      go_wp2
      go_ret2
      exact ⟨by rw [E.out]; rfl, HB.out⟩
  | true =>
    rw [e] at hc
    have HC := Lib.hid hc
    have hsz : (s.extract 1 s.size).size ≤ 9223372036854775807 := by simp; omega
    have hnum := cnum_any (s.extract 1 s.size) 9223372036854775808 w hsz hg
    rw [minus_data] at hnum
    have HN := Lib.hid hnum
    have HO : Hid (O = match numN (s.data.toList.drop 1) 9223372036854775808 with | some n => if n = 0 then none else some (-(n : Int)) | none => none) := by
      show O = _
      rw [hO]; unfold signF; rw [e]; rfl
    obtain ⟨t, ht⟩ : ∃ t, t = s.extract 1 s.size := ⟨_, rfl⟩
    rw [if_pos rfl, ← ht] at HC
    rw [← ht] at HN
    clear hc hO e hg hsz hnum ht
    go_enter Tryd.func16, Tryd.ntmps16
    go_wp2_with fail
    refine HC.out.mono ?_
    rintro _ w1 ⟨rfl, rfl⟩
    go_wp2_with fail
    refine HN.out.mono ?_
    rintro _ w1 ⟨rfl, hb1⟩
    have HB := Lib.hid hb1
    clear hb1 HC HN
    cases hn : numN (s.data.toList.drop 1) 9223372036854775808 with
    | none =>
      have E : Hid (O = none) := by show O = _; rw [HO.out, hn]
      clear hn HO
      unfold numV
      go_wp2
      go_ret2
      exact ⟨by rw [E.out]; rfl, HB.out⟩
    | some n =>
      have hle := numN_le hn
      by_cases h0 : n = 0
      · subst h0
        have E : Hid (O = none) := by show O = _; rw [HO.out, hn]; rfl
        clear hn HO
        unfold numV
        go_wp2
        go_ret2
        exact ⟨by rw [E.out]; rfl, HB.out⟩
      · have E : Hid (O = some (-(n : Int))) := by show O = _; rw [HO.out, hn]; exact if_neg h0
        have k0 : ((n : Int) == 0) = false := by rw [beq_eq_false_iff_ne]; omega
        have k0' : (n == 0) = false := by rw [beq_eq_false_iff_ne]; omega
        have k1 : IntKind.i64.wrap (IntKind.u64.wrap (-(n : Int))) = -(n : Int) := by rw [IntKind.wrap_i64, IntKind.wrap_u64]; omega
        clear hn HO
        unfold numV
        go_wp2
        go_ret2
        exact ⟨by rw [E.out]; simp [signV], HB.out⟩
end Go.Proofs.YthggaedpbmjclaaDoor
