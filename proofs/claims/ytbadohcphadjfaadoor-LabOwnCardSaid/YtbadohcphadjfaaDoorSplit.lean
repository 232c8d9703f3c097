/- strings.SplitSeq at one byte: the iterator's contract; strings.Cut at one byte. -/
import Derived.Test.YtbadohcphadjfaaDoorChecked
import Derived.Test.YtbadohcphadjfaaDoorShelf
import Derived.Test.YtbadohcphadjfaaDoorRange
import Derived.RangeFuncBox
import Derived.Lib.Hide
import Derived.Lib.Walk
import Derived.Deep.QuietTactic
import Derived.BigQuiet
namespace Go.Proofs.YtbadohcphadjfaaDoor
open Go.RowKit
attribute [local go_sem] Oper.semAt_some

/-- a text at a sign -/
def splitL (c : UInt8) : List UInt8 → List (List UInt8)
  | [] => [[]]
  | b :: r => if b = c then [] :: splitL c r else match splitL c r with | [] => [[b]] | h :: t => (b :: h) :: t
theorem splitL_ne (c : UInt8) (l : List UInt8) : splitL c l ≠ [] := by
  cases l with
  | nil => simp [splitL]
  | cons b r =>
    rw [splitL]
    split
    · simp
    · split <;> simp

theorem idx_cases (c : UInt8) : ∀ (l : List UInt8), (Lib.indexByte l c = -1 ∧ splitL c l = [l]) ∨ ∃ m : Nat, m < l.length ∧ Lib.indexByte l c = m ∧ splitL c l = l.take m :: splitL c (l.drop (m + 1))
  | [] => .inl ⟨rfl, rfl⟩
  | b :: r => by
    by_cases hb : b = c
    · refine .inr ⟨0, by simp, by simp [Lib.indexByte, hb], by simp [splitL, hb]⟩
    · have hb' : (b == c) = false := by simpa using hb
      rcases idx_cases c r with ⟨h1, h2⟩ | ⟨m, h0, h1, h2⟩
      · refine .inl ⟨by simp [Lib.indexByte, hb', h1], by rw [splitL, if_neg hb, h2]⟩
      · refine .inr ⟨m + 1, by simp; omega, ?_, ?_⟩
        · rw [Lib.indexByte, hb', h1]
          have : ((m : Int) == -1) = false := by rw [beq_eq_false_iff_ne]; omega
          simp [this]
        · rw [splitL, if_neg hb, h2]
          simp

/-- a list of bytes as a string -/
def strOf (l : List UInt8) : ByteArray := ⟨l.toArray⟩
theorem strOf_data (s : ByteArray) : strOf s.data.toList = s := by cases s; simp [strOf]
theorem strOf_size (l : List UInt8) : (strOf l).size = l.length := rfl
theorem strOf_list (l : List UInt8) : (strOf l).data.toList = l := by simp [strOf]
theorem ext_take (l : List UInt8) (m : Nat) : (strOf l).extract 0 m = strOf (l.take m) := by
  rw [← strOf_data ((strOf l).extract 0 m), Lib.extract_data, strOf_list]; simp
theorem ext_drop (l : List UInt8) (m : Nat) : (strOf l).extract m l.length = strOf (l.drop m) := by
  rw [← strOf_data ((strOf l).extract m l.length), Lib.extract_data, strOf_list, List.take_of_length_le (by simp)]
def splitS (c : UInt8) (s : ByteArray) : List ByteArray := (splitL c s.data.toList).map strOf

/-- what the box of the rest holds: for the loop's measure -/
def restSize (g0 : Nat) (W : World) : Nat := match W.cell? ⟨g0, 0, none⟩ with | some (.string s) => s.size | _ => 0
theorem restSize_eq {g0 : Nat} {W : World} {s : ByteArray} (h : W.cell? ⟨g0, 0, none⟩ = some (.string s)) : restSize g0 W = s.size := by simp [restSize, h]

theorem boxed_same {g0 g1 B : Nat} {W W' : World} {t : TypeId} {v : Value} (h : Boxed W B t v) (hs : Same g0 g1 W W') (h0 : g0 ≤ B) (h1 : B < g1) : Boxed W' B t v := (hs B h0 h1).trans h
theorem boxed_other {B g : Nat} {W : World} {t : TypeId} {v : Value} (h : Boxed W B t v) (hg : B ≠ g) (x : Value) : Boxed (W.setCell ⟨g, 0, none⟩ x) B t v := (Below.heap_setCell W ⟨g, 0, none⟩ x B hg).trans h

set_option maxRecDepth 100000 in
set_option maxHeartbeats 2000000 in
/-- the closure of strings.SplitSeq, its variables boxed: the rest at g0, the sign at g0 + 1, nought at g0 + 2 -/
theorem splitIter_any (F : Fence) (n : Nat) (h79 : F.fn 79) (h81 : F.fn 81) (hix : ∀ (s : ByteArray) (c : UInt8) (W : World), CallsIn F (n - 1) Tryd.prog 81 #[.string s, .string ⟨#[c]⟩] W fun e w' => e = .returned (.int .i64 (Lib.indexByte s.data.toList c)) ∧ w' = W)
    (hro : F.round = none) (hn : 1 ≤ n) (l g0 : Nat) (c : UInt8) (s : ByteArray) (hsz : s.size ≤ 1048576) (J Jx : List ByteArray → World → Prop)
    (hset : ∀ pre A v, J pre A → J pre (A.setCell ⟨g0, 0, none⟩ v))
    (hY : ∀ pre x W, J pre W → (pre ++ [x]) <+: splitS c s → YieldAt F (n - 1) Tryd.prog l #[.string x] W fun e W' =>
      (e = .returned (.bool true) ∧ J (pre ++ [x]) W' ∧ Same g0 (g0 + 3) W W') ∨ (e = .returned (.bool false) ∧ Jx (pre ++ [x]) W'))
    (W : World) (b0 : Boxed W g0 9 (.string s)) (b1 : Boxed W (g0 + 1) 9 (.string ⟨#[c]⟩)) (b2 : Boxed W (g0 + 2) 3 (.int .i64 0)) (h0 : J [] W) :
    CallsIn F n Tryd.prog 79 #[.func (.yield l) #[] #[], .pointer (some ⟨g0 + 1, 0, none⟩), .pointer (some ⟨g0, 0, none⟩), .pointer (some ⟨g0 + 2, 0, none⟩)] W fun e W' => (∃ v, e = .returned v) ∧
      ((∃ xs, xs = splitS c s ∧ J xs W') ∨ (∃ pre, Jx pre W')) := by
  have k1 := b1.cell
  refine callsIn_of_wp Tryd.func79 rfl h79 ?_ hro
  simp only [Tryd.ntmps79, List.size_toArray, List.length_cons, List.length_nil, Nat.reduceAdd, Nat.reduceSub, Array.replicate_succ, Array.replicate_zero, List.push_toArray, List.append_toArray, List.nil_append, List.cons_append]
  gi_wp2
  gi_loopw [] (fun wr => ∃ (pre : List ByteArray) (cur : List UInt8), Hid (splitS c s = pre ++ (splitL c cur).map strOf) ∧ cur.length ≤ 1048576 ∧ Boxed wr g0 9 (.string (strOf cur)) ∧ Boxed wr (g0 + 1) 9 (.string ⟨#[c]⟩) ∧ Boxed wr (g0 + 2) 3 (.int .i64 0) ∧ J pre wr)
    (fun wr => restSize g0 wr)
  case atStart => exact ⟨[], s.data.toList, rfl, hsz, by rw [strOf_data]; exact b0, b1, b2, h0⟩
  case round =>
    obtain ⟨pre, cur, Hs, hsz2, d0, d1, d2, hJ⟩ := hrel
    have c0 := d0.cell
    have c1 := d1.cell
    have c2 := d2.cell
    have f0 := d0.frozen
    have hx := hix (strOf cur) c wr
    rw [strOf_list] at hx
    rcases idx_cases c cur with ⟨hi, hsp⟩ | ⟨m, hm, hi, hsp⟩
    · rw [hi] at hx
      rw [hsp] at Hs
      obtain ⟨fn, tmps, assign, body, hy, hR⟩ := hY pre (strOf cur) wr hJ (by rw [Hs.out]; exact List.prefix_refl _)
      have Hx := Lib.hid hx
      clear hx hi hsp hix hY
      gi_wp2_with (gi_at_call 81; refine Hx.out.mono ?_; rintro e w' ⟨rfl, rfl⟩)
      refine hR.mono ?_
      rintro e W3 (⟨rfl, hJ3, hk3⟩ | ⟨rfl, hJx3⟩)
      · gi_wp2
        go_end0
        exact ⟨⟨_, rfl⟩, .inl ⟨_, Hs.out.symm, hJ3⟩⟩
      · gi_wp2
        go_end0
        exact ⟨⟨_, rfl⟩, .inr ⟨_, hJx3⟩⟩
    · rw [hi] at hx
      rw [hsp] at Hs
      have Hx := Lib.hid hx
      obtain ⟨fn, tmps, assign, body, hy, hR⟩ := hY pre ((strOf cur).extract 0 m) wr hJ (by rw [Hs.out, ext_take]; exact ⟨(splitL c (cur.drop (m + 1))).map strOf, by simp⟩)
      have hms : m ≤ cur.length := by omega
      have hz : (strOf cur).size = cur.length := rfl
      clear hx hi hsp hix hY
      gi_wp2_with (gi_at_call 81; refine Hx.out.mono ?_; rintro e w' ⟨rfl, rfl⟩)
      refine hR.mono ?_
      rintro e W3 (⟨rfl, hJ3, hk3⟩ | ⟨rfl, hJx3⟩)
      · have r0 := restSize_eq c0
        have R0 := Lib.hid r0
        have e0 := boxed_same d0 hk3 (Nat.le_refl _) (by omega)
        have e1 := boxed_same d1 hk3 (by omega) (by omega)
        have e2 := boxed_same d2 hk3 (by omega) (by omega)
        have k0 := e0.cell
        have k1 := e1.cell
        have k2 := e0.frozen
        clear r0
        gi_wp2
        have hr := e0.set (.string ((strOf cur).extract (m + 1) cur.length))
        rw [ext_drop] at hr
        refine ⟨⟨pre ++ [(strOf cur).extract 0 m], cur.drop (m + 1), ?_, ?_, ?_, boxed_other e1 (by omega) _, boxed_other e2 (by omega) _, hset _ _ _ hJ3⟩, ?_⟩
        · show splitS c s = _
          rw [Hs.out, ext_take]; simp
        · rw [List.length_drop]; omega
        · rw [ext_drop]; exact hr
        · rw [ext_drop, R0.out, restSize_eq hr.cell, strOf_size, strOf_size, List.length_drop]; omega
      · gi_wp2
        refine bodyPost_ret (results_none rfl _ _ _) rfl ?_
        exact ⟨⟨_, rfl⟩, .inr ⟨_, hJx3⟩⟩

set_option maxRecDepth 100000 in
set_option maxHeartbeats 400000 in
/-- strings.SplitSeq: three boxes are laid, the closure is handed back -/
theorem splitSeq_any (s sep : ByteArray) (w : World) :
    Calls Tryd.prog 47 #[.string s, .string sep] w fun e w' =>
      e = .returned (.func (.func 79) #[] #[.pointer (some ⟨w.heap.size + 1, 0, none⟩), .pointer (some ⟨w.heap.size, 0, none⟩), .pointer (some ⟨w.heap.size + 2, 0, none⟩)]) ∧
      w' = ((w.alloc (.cells #[.string s] 9)).alloc (.cells #[.string sep] 9)).alloc (.cells #[.int .i64 0] 3) := by
  go_enter Tryd.func47, Tryd.ntmps47
  go_wp2_with go_in
  go_ret
  exact ⟨rfl, rfl⟩

/-- a text cut at its first sign -/
def cutL (c : UInt8) (l : List UInt8) : Option (List UInt8 × List UInt8) :=
  if Lib.indexByte l c < 0 then none else some (l.take (Lib.indexByte l c).toNat, l.drop ((Lib.indexByte l c).toNat + 1))

theorem below_drewN_ {B : Nat} {a w : World} (h : Below B a w) (n : Nat) : Below B a (w.drewN n) := ⟨h.os, h.tape, h.output, h.size, h.block⟩

def cutV (c : UInt8) (l : List UInt8) : Value :=
  match cutL c l with
  | none => .tuple #[.string (strOf l), .string ⟨#[]⟩, .bool false]
  | some p => .tuple #[.string (strOf p.1), .string (strOf p.2), .bool true]

set_option maxRecDepth 100000 in
set_option maxHeartbeats 400000 in
theorem scut_any (l : List UInt8) (c : UInt8) (hl : l.length ≤ 1048576) (w : World) :
    Calls Tryd.prog 65 #[.string (strOf l), .string ⟨#[c]⟩] w fun e w' => e = .returned (cutV c l) ∧ Below w.heap.size w w' := by
  have hx := Tryd.stringslite_Index_one (strOf l) c
  rw [strOf_list] at hx
  have hz : (strOf l).size = l.length := rfl
  rcases idx_cases c l with ⟨hi, -⟩ | ⟨m, hm, hi, -⟩
  · have hc : Hid (cutV c l = .tuple #[.string (strOf l), .string ⟨#[]⟩, .bool false]) := by show cutV c l = _; rw [cutV, cutL, hi]; rfl
    rw [hi] at hx
    have Hx := Lib.hid hx
    clear hx hi
    go_enter Tryd.func65, Tryd.ntmps65
    go_wp2_with fail
    refine (Hx.out _).mono ?_
    rintro e w' ⟨rfl, rfl⟩
    go_wp2
    go_ret3
    exact ⟨by rw [hc.out]; rfl, Below.refl _ _⟩
  · have hc : Hid (cutV c l = .tuple #[.string ((strOf l).extract 0 m), .string ((strOf l).extract (m + 1) l.length), .bool true]) := by
      show cutV c l = _
      rw [ext_take, ext_drop, cutV, cutL, hi, if_neg (by omega)]; rfl
    rw [hi] at hx
    have Hx := Lib.hid hx
    have hms : m ≤ l.length := by omega
    have hb : decide ((0 : Int) ≤ (m : Int)) = true := decide_eq_true (by omega)
    clear hx hi
    go_enter Tryd.func65, Tryd.ntmps65
    go_wp2_with fail
    refine (Hx.out _).mono ?_
    rintro e w' ⟨rfl, rfl⟩
    go_wp2
    go_quiet (fail)
    go_wp2
    go_ret3
    exact ⟨by rw [hc.out]; rfl, below_drewN_ (Below.refl _ _) _⟩

set_option maxRecDepth 100000 in
set_option maxHeartbeats 400000 in
theorem cut_any (l : List UInt8) (c : UInt8) (hl : l.length ≤ 1048576) (w : World) :
    Calls Tryd.prog 48 #[.string (strOf l), .string ⟨#[c]⟩] w fun e w' => e = .returned (cutV c l) ∧ Below w.heap.size w w' := by
  have hx := scut_any l c hl
  have Hx := Lib.hid hx
  clear hx
  cases hc : cutL c l with
  | none =>
    have e1 : cutV c l = .tuple #[.string (strOf l), .string ⟨#[]⟩, .bool false] := by rw [cutV, hc]
    rw [e1] at Hx ⊢
    clear hc e1
    go_enter Tryd.func48, Tryd.ntmps48
    go_wp2_with fail
    refine (Hx.out _).mono ?_
    rintro e w' ⟨rfl, hb⟩
    go_wp2
    go_ret3
    exact ⟨rfl, hb⟩
  | some p =>
    have e1 : cutV c l = .tuple #[.string (strOf p.1), .string (strOf p.2), .bool true] := by rw [cutV, hc]
    rw [e1] at Hx ⊢
    clear hc e1
    go_enter Tryd.func48, Tryd.ntmps48
    go_wp2_with fail
    refine (Hx.out _).mono ?_
    rintro e w' ⟨rfl, hb⟩
    go_wp2
    go_ret3
    exact ⟨rfl, hb⟩
end Go.Proofs.YtbadohcphadjfaaDoor
