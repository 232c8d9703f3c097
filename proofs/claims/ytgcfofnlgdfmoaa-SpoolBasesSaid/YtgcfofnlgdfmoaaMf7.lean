/- Several texts in one: PkRef, PkWtr. -/
import Derived.Lib.AppendStr
import Derived.Laws.Shifts
import Derived.Laws.BitsAllLaws
import Derived.Test.YtgcfofnlgdfmoaaMf2
import Derived.Test.YtgcfofnlgdfmoaaMf5
/- Layer 3: the document's numbers and texts as bytes: watchfireref01.Uint, Int, Long. -/
namespace Go.Proofs.Ytgcfofnlgdfmoaa
open Go.RowKit

end Go.Proofs.Ytgcfofnlgdfmoaa
/- Layer 3: pack.Writer: what it holds; each of its calls, and those of a nil one. -/
namespace Go.Proofs.Ytgcfofnlgdfmoaa
open Go.RowKit

/-- the Writer at block g: its slice v, the bytes that were put -/
structure Wtr (w : World) (g : Nat) (v : Value) (l : List Nat) : Prop where
  lt : g < w.heap.size
  c0 : w.cell? ⟨g, 0, none⟩ = some v
  own : w.ownsRow (g + 1) 5 1 v l.length (cellsB l)
  fz : w.frozen? ⟨g, 0, none⟩ = false
theorem Wtr.below {w w' : World} {g : Nat} {v : Value} {l : List Nat} (h : Wtr w g v l) (hb : Below w.heap.size w w') : Wtr w' g v l :=
  ⟨Nat.lt_of_lt_of_le h.lt hb.size, (hb.cell (p := ⟨g, 0, none⟩) h.lt).trans h.c0, ownB_below h.own hb, (hb.frozen (p := ⟨g, 0, none⟩) h.lt).trans h.fz⟩
/-- what a call of the Writer leaves -/
def Puts (w w' : World) (g : Nat) (v : Value) (l : List Nat) : Prop := ∃ v', Wtr w' g v' l ∧ Wrote w w' g v.ownBlock v'.ownBlock
theorem Wtr.ne {w : World} {g : Nat} {v : Value} {l : List Nat} (h : Wtr w g v l) : ∀ k, v.ownBlock = some k → g < k := fun k hk => (h.own.lt k hk).1
theorem Wtr.new (w : World) (t : TypeId) : Wtr (w.alloc (.cells #[.slice none 0 0] t)) w.heap.size (.slice none 0 0) [] :=
  ⟨by simp, by rw [World.cell?_alloc_at _ _ _ _ rfl]; rfl, World.ownsRow_nil _ _ _ _, World.frozen?_alloc_at _ _ _ _ rfl⟩

set_option maxRecDepth 100000 in
set_option maxHeartbeats 400000 in
theorem wbyte_any (g : Nat) (v : Value) (l : List Nat) (x : Nat) (w : World) (h : Wtr w g v l) (hl : l.length ≤ 2097152) :
    Calls Try.prog 128 #[.pointer (some ⟨g, 0, none⟩), .int .u8 x] w fun e w' => e = .returned (.tuple #[]) ∧ Puts w w' g v (l ++ [x]) := by
  obtain ⟨i0, hi, hz0, hz1, hz2⟩ := info_parts Try.infoB
  obtain ⟨A, c, rfl⟩ := ownB_slice h.own
  have HW := Lib.hid h
  have c0 := h.c0
  have hgl := h.lt
  clear h
  go_enter Try.func128, Try.ntmps128
  go_wp2_with (at_builtin; refine wpList_append_src (base := g + 1) rfl _ _ rfl Try.underlying37 hi hz0 hz1 hz2 rfl (by decide) rfl (HW.out.own.alloc _) rfl (src_one _ _ _ x rfl) (cellsB_one [x]) (by unfold maxLen; omega) (by omega) (by simp; omega) ?_; intro v2 w2 hr2 hg2 hb2; obtain ⟨A2, c2, rfl⟩ := ownB_slice hr2; replace hb2 := Lib.hid hb2; have k0 := (hg2.cell_far ⟨g, 0, none⟩ (by simp; omega) (fun e => by have := (HW.out.own.lt g e.symm).1; omega)).trans ((World.cell?_alloc_past _ _ _ hgl).trans c0); have f0 := (hg2.frozen_far ⟨g, 0, none⟩ (by simp; omega) (fun e => by have := (HW.out.own.lt g e.symm).1; omega)).trans ((World.frozen?_alloc_past _ _ _ hgl).trans HW.out.fz); replace hg2 : Hid (w.grownBy w2 (Value.slice A l.length c).ownBlock) := Lib.hid (grownBy_trans (World.grownBy_alloc _ _ _) hg2); replace hr2 := Lib.hid hr2)
  go_end0
  have ho := hr2.out
  rw [← cellsB_append] at ho
  refine ⟨rfl, _, ⟨?_, World.cell?_setCell_same _ _ _ k0, ?_, ?_⟩, Wrote.of_grown hg2.out (hb2.out.imp id fun e => ⟨_, e, by simp⟩) _ _ _⟩
  · simpa using Nat.lt_of_lt_of_le hgl hg2.out.size
  · rw [List.length_append]
    exact ownsRow_setCell_below ho (by simp) _
  · simpa using f0
theorem wbyte_at (g : Nat) (v : Value) (l : List Nat) {z : Int} (x : Nat) (hz : z = x) (w : World) (h : Wtr w g v l) (hl : l.length ≤ 2097152) :
    Calls Try.prog 128 #[.pointer (some ⟨g, 0, none⟩), .int .u8 z] w fun e w' => e = .returned (.tuple #[]) ∧ Puts w w' g v (l ++ [x]) := by
  subst hz; exact wbyte_any g v l x w h hl
theorem or128 : ∀ a, a < 256 → a ||| 128 = a % 128 + 128 := by decide +kernel
theorem u8_or128 (m : Nat) : bits .or .u8 ((m : Int) % 256) 128 = ((m % 128 + 128 : Nat) : Int) := by
  have h := u8_or_nat (m % 256) 128 (by omega) (by decide)
  rw [or128 _ (by omega)] at h
  rw [show m % 128 + 128 = m % 256 % 128 + 128 by omega, ← h]
  congr 1

set_option maxRecDepth 100000 in
set_option maxHeartbeats 400000 in
theorem wuint_any (g : Nat) (v : Value) (l : List Nat) (n : Nat) (hn : n < 18446744073709551616) (w : World) (h : Wtr w g v l) (hl : l.length ≤ 2097000) :
    Calls Try.prog 129 #[.pointer (some ⟨g, 0, none⟩), .int .u64 n] w fun e w' => e = .returned (.tuple #[]) ∧ Puts w w' g v (l ++ leb n) := by
  have hL := leb_le10 hn
  have HW := Lib.hid h
  clear h
  go_enter Try.func129, Try.ntmps129
  go_wp2
  go_loopw [1] (fun nv wr => ∃ (m : Nat) (pre : List Nat), nv = .int .u64 m ∧ m < 18446744073709551616 ∧ Hid (pre ++ leb m = leb n) ∧ Hid (Puts w wr g v (l ++ pre))) (fun nv _ => (intOf nv).toNat)
  case atStart => exact ⟨n, [], rfl, hn, rfl, v, by rw [List.append_nil]; exact HW.out, Wrote.refl _ _ _⟩
  case round =>
    obtain ⟨m, pre, rfl, hm, Hp, Ho⟩ := hrel
    have hpl : pre.length ≤ 10 := by have := congrArg List.length Hp.out; rw [List.length_append] at this; omega
    have hll : (l ++ pre).length ≤ 2097152 := by rw [List.length_append]; omega
    have Hll := Lib.hid hll
    have Ho' := Ho.out
    obtain ⟨v1, h1, h2⟩ := Ho'
    have H1 := Lib.hid h1
    have H2 := Lib.hid h2
    clear h1 h2 Ho hll
    by_cases hlt : m < 128
    · have h1 : ¬ (128 ≤ (m : Int)) := by omega
      go_wp2_with fail
      refine (wbyte_at g v1 (l ++ pre) m (by omega) wr H1.out Hll.out).mono ?_
      rintro e w2 ⟨rfl, v2, h3, h4⟩
      have H3 := Lib.hid h3
      have H4 := Lib.hid h4
      clear h3 h4
      go_wp2
      go_end0
      refine ⟨rfl, v2, ?_, H2.out.trans H4.out⟩
      rw [← Hp.out, leb_lt hlt, ← List.append_assoc]
      exact H3.out
    · have h1 : (128 ≤ (m : Int)) := by omega
      go_wp2_with fail
      refine (wbyte_at g v1 (l ++ pre) (m % 128 + 128) (u8_or128 m) wr H1.out Hll.out).mono ?_
      rintro e w2 ⟨rfl, v2, h3, h4⟩
      have H3 := Lib.hid h3
      have H4 := Lib.hid h4
      clear h3 h4
      go_wp2
      refine ⟨⟨m / 128, pre ++ [m % 128 + 128], by go_num, by omega, ?_, ?_⟩, by simp [intOf]; omega⟩
      · show _ = _
        rw [List.append_assoc, List.singleton_append, ← leb_ge hlt, Hp.out]
      · exact ⟨v2, by rw [← List.append_assoc]; exact H3.out, H2.out.trans H4.out⟩
theorem wuint_at (g : Nat) (v : Value) (l : List Nat) {z : Int} (n : Nat) (hz : z = n) (hn : n < 18446744073709551616) (w : World) (h : Wtr w g v l) (hl : l.length ≤ 2097000) :
    Calls Try.prog 129 #[.pointer (some ⟨g, 0, none⟩), .int .u64 z] w fun e w' => e = .returned (.tuple #[]) ∧ Puts w w' g v (l ++ leb n) := by
  subst hz; exact wuint_any g v l n hn w h hl

set_option maxRecDepth 100000 in
set_option maxHeartbeats 400000 in
theorem wbool_any (g : Nat) (v : Value) (l : List Nat) (b : Bool) (w : World) (h : Wtr w g v l) (hl : l.length ≤ 2097000) :
    Calls Try.prog 119 #[.pointer (some ⟨g, 0, none⟩), .bool b] w fun e w' => e = .returned (.tuple #[]) ∧ Puts w w' g v (l ++ [if b then 1 else 0]) := by
  have HW := Lib.hid h
  clear h
  cases b with
  | true =>
    go_enter Try.func119, Try.ntmps119
    go_wp2_with fail
    refine (wbyte_at g v l 1 rfl w HW.out (by omega)).mono ?_
    rintro e w2 ⟨rfl, h3⟩
    have H3 := Lib.hid h3
    clear h3
    go_wp2
    refine bodyPost_ret (results_none rfl _ _ _) rfl ?_
    exact ⟨rfl, H3.out⟩
  | false =>
    go_enter Try.func119, Try.ntmps119
    go_wp2_with fail
    refine (wbyte_at g v l 0 rfl w HW.out (by omega)).mono ?_
    rintro e w2 ⟨rfl, h3⟩
    have H3 := Lib.hid h3
    clear h3
    go_wp2
    go_end0
    exact ⟨rfl, H3.out⟩

set_option maxRecDepth 100000 in
set_option maxHeartbeats 400000 in
theorem wtext_any (g : Nat) (v : Value) (l : List Nat) (s : ByteArray) (hs : s.size ≤ 1048576) (w : World) (h : Wtr w g v l) (hl : l.length ≤ 2097000) :
    Calls Try.prog 130 #[.pointer (some ⟨g, 0, none⟩), .string s] w fun e w' => e = .returned (.tuple #[]) ∧ Puts w w' g v (l ++ (leb s.size ++ bytesN s)) := by
  obtain ⟨i0, hi, hz0, hz1, hz2⟩ := info_parts Try.infoB
  have hL := leb_le10 (n := s.size) (by omega)
  have HW := Lib.hid h
  clear h
  go_enter Try.func130, Try.ntmps130
  go_wp2_with fail
  refine (wuint_at g v l s.size (by omega) (by omega) w HW.out (by omega)).mono ?_
  rintro e w1 ⟨rfl, v1, h1, h2⟩
  have how := h1.own
  rw [List.length_append] at how
  obtain ⟨A, c, rfl⟩ := ownB_slice how
  have How := Lib.hid how
  clear how
  have H1 := Lib.hid h1
  have H2 := Lib.hid h2
  have c0 := h1.c0
  have hgl := h1.lt
  have Hll : Hid ((l ++ leb s.size).length = l.length + (leb s.size).length) := List.length_append
  clear h1 h2
  go_wp2_with (at_builtin; refine wpList_append_str (base := g + 1) rfl _ _ rfl Try.underlying37 Try.underlying9 hi hz0 hz1 hz2 rfl How.out rfl (by unfold maxLen; omega) (by omega) (by omega) ?_; intro v2 w2 hr2 hg2 hb2; obtain ⟨A2, c2, rfl⟩ := ownB_slice hr2; replace hb2 := Lib.hid hb2; have k0 := (hg2.cell_far ⟨g, 0, none⟩ hgl (fun e => by have := (H1.out.own.lt g e.symm).1; omega)).trans c0; have f0 := (hg2.frozen_far ⟨g, 0, none⟩ hgl (fun e => by have := (H1.out.own.lt g e.symm).1; omega)).trans H1.out.fz; replace hg2 : Hid (w1.grownBy w2 (Value.slice A (l.length + (leb s.size).length) c).ownBlock) := Lib.hid hg2; replace hr2 := Lib.hid hr2)
  go_end0
  have ho := hr2.out
  rw [← cellsB_append] at ho
  refine ⟨rfl, _, ⟨?_, World.cell?_setCell_same _ _ _ k0, ?_, ?_⟩, H2.out.trans (Wrote.of_grown hg2.out hb2.out _ _ _)⟩
  · simpa using Nat.lt_of_lt_of_le hgl hg2.out.size
  · rw [← List.append_assoc, List.length_append, bytesN_length, List.length_append]
    exact ownsRow_setCell_below ho (by simp) _
  · simpa using f0

set_option maxRecDepth 100000 in
set_option maxHeartbeats 400000 in
theorem wbytes_any (g : Nat) (v : Value) (l : List Nat) (w : World) (h : Wtr w g v l) (hl : l.length ≤ 4194304) :
    Calls Try.prog 104 #[.pointer (some ⟨g, 0, none⟩)] w fun e w' => ∃ v', e = .returned v' ∧ w'.ownsRow w.heap.size 5 1 v' l.length (cellsB l) ∧ Below w.heap.size w w' := by
  obtain ⟨A, c, rfl⟩ := ownB_slice h.own
  have c0 := h.c0
  have Hb := Lib.hid (bclone_any A l.length c l w w.heap.size rfl (fun e => by
    subst e
    rcases h.own.2 with ⟨e, _⟩ | ⟨_, _, _, e, _⟩
    · injection e
    · injection e with e; cases e) (by omega) (RdB.of_own h.own) (Nat.le_refl _))
  clear h
  go_enter Try.func104, Try.ntmps104
  go_wp2_with fail
  refine Hb.out.mono ?_
  rintro e w2 ⟨v2, rfl, ho, hb⟩
  have Ho := Lib.hid ho
  clear ho
  go_wp2
  go_ret
  exact ⟨_, rfl, Ho.out, hb⟩

set_option maxHeartbeats 400000 in
theorem wbyte_nil (z : Int) (w : World) :
    Calls Try.prog 128 #[.pointer none, .int .u8 z] w fun e w' => e = .returned (.tuple #[]) ∧ w = w' := by
  go_enter Try.func128, Try.ntmps128
  go_wp2
  refine bodyPost_ret (results_none rfl _ _ _) rfl ?_
  exact ⟨rfl, rfl⟩
set_option maxHeartbeats 400000 in
theorem wbytes_nil (w : World) :
    Calls Try.prog 104 #[.pointer none] w fun e w' => e = .returned (.slice none 0 0) ∧ w = w' := by
  go_enter Try.func104, Try.ntmps104
  go_wp2
  go_ret
  exact ⟨rfl, rfl⟩
set_option maxHeartbeats 400000 in
theorem wtext_nil (s : ByteArray) (w : World) :
    Calls Try.prog 130 #[.pointer none, .string s] w fun e w' => e = .returned (.tuple #[]) ∧ w = w' := by
  go_enter Try.func130, Try.ntmps130
  go_wp2
  refine bodyPost_ret (results_none rfl _ _ _) rfl ?_
  exact ⟨rfl, rfl⟩
set_option maxRecDepth 100000 in
set_option maxHeartbeats 400000 in
theorem wuint_nil {z : Int} (n : Nat) (hz : z = n) (hn : n < 18446744073709551616) (w : World) :
    Calls Try.prog 129 #[.pointer none, .int .u64 z] w fun e w' => e = .returned (.tuple #[]) ∧ w = w' := by
  subst hz
  go_enter Try.func129, Try.ntmps129
  go_wp2
  go_loopw [1] (fun nv wr => ∃ (m : Nat), nv = .int .u64 m ∧ m < 18446744073709551616 ∧ Hid (w = wr)) (fun nv _ => (intOf nv).toNat)
  case atStart => exact ⟨n, rfl, hn, rfl⟩
  case round =>
    obtain ⟨m, rfl, hm, Hw⟩ := hrel
    by_cases hlt : m < 128
    · have h1 : ¬ (128 ≤ (m : Int)) := by omega
      go_wp2_with fail
      refine (wbyte_nil _ wr).mono ?_
      rintro e w2 ⟨rfl, rfl⟩
      go_wp2
      go_end0
      exact ⟨rfl, Hw.out⟩
    · have h1 : (128 ≤ (m : Int)) := by omega
      go_wp2_with fail
      refine (wbyte_nil _ wr).mono ?_
      rintro e w2 ⟨rfl, rfl⟩
      go_wp2
      exact ⟨⟨m / 128, by go_num, by omega, Hw⟩, by simp [intOf]; omega⟩
set_option maxHeartbeats 400000 in
theorem wbool_nil (b : Bool) (w : World) :
    Calls Try.prog 119 #[.pointer none, .bool b] w fun e w' => e = .returned (.tuple #[]) ∧ w = w' := by
  cases b with
  | true =>
    go_enter Try.func119, Try.ntmps119
    go_wp2_with fail
    refine (wbyte_nil _ w).mono ?_
    rintro e w2 ⟨rfl, rfl⟩
    go_wp2
    refine bodyPost_ret (results_none rfl _ _ _) rfl ?_
    exact ⟨rfl, rfl⟩
  | false =>
    go_enter Try.func119, Try.ntmps119
    go_wp2_with fail
    refine (wbyte_nil _ w).mono ?_
    rintro e w2 ⟨rfl, rfl⟩
    go_wp2
    go_end0
    exact ⟨rfl, rfl⟩

theorem u64_not (a : Nat) (ha : a < 18446744073709551616) : bits .xor .u64 IntKind.u64.max (a : Int) = ((18446744073709551615 - a : Nat) : Int) := by
  show IntKind.u64.wrap ((BitVec.ofInt 64 IntKind.u64.max ^^^ BitVec.ofInt 64 (a : Int)).toNat : Int) = _
  have h1 : BitVec.ofInt 64 IntKind.u64.max = BitVec.allOnes 64 := by decide
  rw [h1, BitVec.allOnes_xor, BitVec.toNat_not, ofInt_u64 a ha, IntKind.wrap_u64]
  omega
/-- what Int puts: a number's bits with the sign as the lowest one -/
theorem zigNeg {z : Int} (h1 : -9223372036854775808 ≤ z) (hz : z < 0) :
    bits .or .u64 (IntKind.u64.wrap (bits .xor .u64 IntKind.u64.max (IntKind.u64.wrap z) * 2)) 1 = ((zig z : Nat) : Int) := by
  obtain ⟨a, ha, ha2⟩ : ∃ a : Nat, z = -(a : Int) - 1 ∧ a < 9223372036854775808 := ⟨(-(z + 1)).toNat, by omega, by omega⟩
  have e1 : IntKind.u64.wrap z = ((18446744073709551615 - a : Nat) : Int) := by rw [IntKind.wrap_u64]; omega
  rw [e1, u64_not _ (by omega)]
  have e2 : IntKind.u64.wrap (((18446744073709551615 - (18446744073709551615 - a) : Nat) : Int) * 2) = ((2 * a : Nat) : Int) := by rw [IntKind.wrap_u64]; omega
  rw [e2]
  have h := u64_or_nat (2 * a) 1 (by omega) (by decide)
  have e3 : 2 * a ||| 1 = 2 * a + 1 := by
    have := Nat.two_pow_add_eq_or_of_lt (i := 1) (b := 1) (by decide) a
    simpa using this.symm
  rw [e3] at h
  have e4 : zig z = 2 * a + 1 := by unfold zig; rw [if_pos hz]; omega
  rw [e4]
  exact h
set_option maxRecDepth 100000 in
set_option maxHeartbeats 400000 in
theorem wint_any (g : Nat) (v : Value) (l : List Nat) (z : Int) (h1 : -9223372036854775808 ≤ z) (h2 : z < 9223372036854775808) (w : World) (h : Wtr w g v l) (hl : l.length ≤ 2097000) :
    Calls Try.prog 131 #[.pointer (some ⟨g, 0, none⟩), .int .i64 z] w fun e w' => e = .returned (.tuple #[]) ∧ Puts w w' g v (l ++ leb (zig z)) := by
  have HW := Lib.hid h
  have hlt := zig_lt h1 h2
  clear h
  by_cases hz : z < 0
  · have Hz := Lib.hid (zigNeg h1 hz)
    go_enter Try.func131, Try.ntmps131
    go_wp2_with fail
    refine (wuint_at g v l (zig z) Hz.out hlt w HW.out hl).mono ?_
    rintro e w2 ⟨rfl, h3⟩
    have H3 := Lib.hid h3
    clear h3
    go_wp2
    refine bodyPost_ret (results_none rfl _ _ _) rfl ?_
    exact ⟨rfl, H3.out⟩
  · have hzz : Hid (zig z = 2 * z.toNat) := by show _ = _; unfold zig; rw [if_neg hz]
    go_enter Try.func131, Try.ntmps131
    go_wp2_with fail
    refine (wuint_at g v l (zig z) (by rw [hzz.out]; omega) hlt w HW.out hl).mono ?_
    rintro e w2 ⟨rfl, h3⟩
    have H3 := Lib.hid h3
    clear h3
    go_wp2
    go_end0
    exact ⟨rfl, H3.out⟩
set_option maxRecDepth 100000 in
set_option maxHeartbeats 400000 in
theorem wint_nil (z : Int) (h1 : -9223372036854775808 ≤ z) (h2 : z < 9223372036854775808) (w : World) :
    Calls Try.prog 131 #[.pointer none, .int .i64 z] w fun e w' => e = .returned (.tuple #[]) ∧ w = w' := by
  have hlt := zig_lt h1 h2
  by_cases hz : z < 0
  · have Hz := Lib.hid (zigNeg h1 hz)
    go_enter Try.func131, Try.ntmps131
    go_wp2_with fail
    refine (wuint_nil (zig z) Hz.out hlt w).mono ?_
    rintro e w2 ⟨rfl, rfl⟩
    go_wp2
    refine bodyPost_ret (results_none rfl _ _ _) rfl ?_
    exact ⟨rfl, rfl⟩
  · have hzz : Hid (zig z = 2 * z.toNat) := by show _ = _; unfold zig; rw [if_neg hz]
    go_enter Try.func131, Try.ntmps131
    go_wp2_with fail
    refine (wuint_nil (zig z) (by rw [hzz.out]; omega) hlt w).mono ?_
    rintro e w2 ⟨rfl, rfl⟩
    go_wp2
    go_end0
    exact ⟨rfl, rfl⟩
end Go.Proofs.Ytgcfofnlgdfmoaa
