/- Layer 6: Read, Loose of a disk; slices.Clone of bytes. -/
import Derived.Test.YtgcfofnlgdfmoaaDkMore
import Derived.Deep.QuietTactic
import Derived.BigQuiet
namespace Go.Proofs.Ytgcfofnlgdfmoaa
open Go.RowKit Go.Maps

set_option maxRecDepth 100000 in
set_option maxHeartbeats 400000 in
theorem sclone_any (A : Option Addr) (n c : Nat) (l : List Nat) (w : World) (B : Nat) (hn : n = l.length) (hA : A = none → n = 0) (hm : n ≤ 140737488351232) (hr : RdB w B A l) (hB : B ≤ w.heap.size) :
    Calls Try.prog 67 #[.slice A n c] w fun e w' => ∃ v, e = .returned v ∧ w'.ownsRow w.heap.size 5 1 v n (cellsB l) ∧ Below w.heap.size w w' ∧ (A = none → v = .slice none 0 0) := by
  obtain ⟨i0, hi, hz0, hz1, hz2⟩ := info_parts Try.infoB
  have q22 : ∀ (w : World) (a : Option Addr) (n c n' c' : Nat), (binOp .eql 37 (.slice a n c) (.slice none n' c')).run Try.prog w = .ok (.bool a.isNone) w := fun w a n c n' c' => Lib.run_eql_slice_nil w _ _ a n c n' c' Try.underlying37
  cases A with
  | none =>
    obtain rfl := hA rfl
    obtain rfl : l = [] := List.eq_nil_of_length_eq_zero hn.symm
    clear hm hn hA hr
    go_enter Try.func67, Try.ntmps67
    go_wp2
    go_ret
    exact ⟨_, rfl, World.ownsRow_nil _ _ _ _, Below.refl _ _, fun _ => rfl⟩
  | some a =>
    have hs1 : Src (w.alloc (.cells #[] 5)) (some a) n 1 (cellsB l) := src_of_rdB (hr.below (((Below.refl _ w).alloc (Nat.le_refl _) _).mono hB)) hn
    have HS := Lib.hid hs1
    have Hm := Lib.hid hm
    clear hs1 hr hA hn hm
    go_enter Try.func67, Try.ntmps67
    go_wp2_with (at_builtin; refine wpList_append_src (base := w.heap.size) rfl _ _ rfl Try.underlying37 hi hz0 hz1 hz2 rfl (by decide) rfl (World.ownsRow_made _ #[] 0 (Nat.le_refl _) (Nat.zero_le _) rfl) rfl HS.out (cellsB_one _) (by have := Hm.out; unfold maxLen; omega) (by have := Hm.out; omega) (by simp) ?_; intro v1 w1 hr1 hg1 hb1; replace hb1 : Below w.heap.size w w1 := ((Below.refl _ w).alloc (Nat.le_refl _) _).grown hg1 (by simp) (fun q hq => by cases hq; exact Nat.le_refl _); replace hr1 := Lib.hid hr1; clear hg1)
    go_ret
    have h := hr1.out
    rw [Nat.zero_add, List.nil_append] at h
    exact ⟨_, rfl, h, hb1, fun h => nomatch h⟩

theorem rdB_of_own {w : World} {base : Nat} {e : TypeId} {A : Option Addr} {n c : Nat} {l : List Nat} (h : w.ownsRow base e 1 (.slice A n c) n (cellsB l)) : RdB w w.heap.size A l ∧ n = l.length ∧ (A = none → n = 0) := by
  refine ⟨RdB.of_own h, ?_, ?_⟩
  · have := h.1; rw [cellsB_length] at this; omega
  · intro hA
    rcases h.2 with ⟨_, e2⟩ | ⟨g, cap, cur, e1, _⟩
    · exact e2
    · injection e1 with e1; rw [hA] at e1; cases e1

set_option maxRecDepth 100000 in
set_option maxHeartbeats 400000 in
theorem read_some {S : Nat → Prop} {g : Nat} {L : List (ByteArray × Fl)} {wr sy : Nat} {s : ByteArray} {f : Fl} (w : World) (h : Disk w S g L wr sy) (hs : s.size ≤ maxLen) (hf : findP L s = some f) :
    Calls Try.prog 37 #[.pointer (some ⟨g, 0, none⟩), .string s] w fun e w' => ∃ v, e = .returned (.tuple #[v, .int .i64 0]) ∧ w'.ownsRow w.heap.size 5 1 v f.by_.length (cellsB f.by_) ∧ Below w.heap.size w w' := by
  obtain ⟨E, mo, rfl, h1, h2⟩ := h
  obtain ⟨x, hx, rfl⟩ := fl_some rfl hf
  have hix := h2.each _ (findP_some hx)
  obtain ⟨A, c, hv⟩ := ownB_slice hix.own
  have hxm := hix.max
  have HC := Lib.hid (find_some w h1 h2 hs hx)
  have HV : Hid (x.v = .slice A x.by_.length c) := hv
  have hxo := hix.own
  rw [hv] at hxo
  have HO := Lib.hid hxo
  clear hs h1 h2 hx hf hv hix hxo
  go_enter Try.func37, Try.ntmps37
  go_wp2_with fail
  refine HC.out.mono ?_
  rintro e w1 ⟨rfl, hb⟩
  rw [HV.out]
  unfold fileV
  have hb2 := (hb.trans (((Below.refl w.heap.size w1).alloc hb.size (.cells #[.slice A x.by_.length c, .int .i64 x.syn] 126))))
  have HB2 := Lib.hid hb2
  clear hb hb2
  go_wp2_with fail
  obtain ⟨r1, r2, r3⟩ := rdB_of_own (ownB_below HO.out HB2.out)
  refine (sclone_any A x.by_.length c x.by_ _ _ r2 r3 (by omega) r1 (Nat.le_refl _)).mono ?_
  rintro e w2 ⟨v, rfl, o1, o2, _⟩
  have O1 := Lib.hid o1
  have O2 := Lib.hid o2
  clear o1 o2 r1 r2 r3
  go_wp2
  go_ret2
  exact ⟨v, rfl, ownB_mono O1.out (by have := HB2.out.size; simpa using this), HB2.out.trans (O2.out.mono HB2.out.size)⟩

set_option maxRecDepth 100000 in
set_option maxHeartbeats 400000 in
theorem read_of {P0 : Value} {k : Int} (s : ByteArray) (w : World) (hc : Calls Try.prog 66 #[P0, .string s] w fun e w' => e = .returned (.tuple #[fileV (.slice none 0 0) 0, .int .i64 k]) ∧ Below w.heap.size w w') :
    Calls Try.prog 37 #[P0, .string s] w fun e w' => e = .returned (.tuple #[.slice none 0 0, .int .i64 k]) ∧ Below w.heap.size w w' := by
  have HC := Lib.hid hc
  clear hc
  go_enter Try.func37, Try.ntmps37
  go_wp2_with fail
  refine HC.out.mono ?_
  rintro e w1 ⟨rfl, hb⟩
  unfold fileV
  have hb2 := (hb.trans (((Below.refl w.heap.size w1).alloc hb.size (.cells #[.slice none 0 0, .int .i64 0] 126))))
  have HB2 := Lib.hid hb2
  clear hb hb2
  go_wp2_with fail
  refine (sclone_any none 0 0 [] _ 0 rfl (fun _ => rfl) (by omega) RdB.empty (Nat.zero_le _)).mono ?_
  rintro e w2 ⟨v, rfl, _, o2, o3⟩
  obtain rfl := o3 rfl
  have O2 := Lib.hid o2
  clear o2 o3
  go_wp2
  go_ret2
  exact ⟨rfl, HB2.out.trans (O2.out.mono HB2.out.size)⟩
theorem read_none {S : Nat → Prop} {g : Nat} {L : List (ByteArray × Fl)} {wr sy : Nat} {s : ByteArray} (w : World) (h : Disk w S g L wr sy) (hs : s.size ≤ maxLen) (hf : findP L s = none) :
    Calls Try.prog 37 #[.pointer (some ⟨g, 0, none⟩), .string s] w fun e w' => e = .returned (.tuple #[.slice none 0 0, .int .i64 14]) ∧ Below w.heap.size w w' := by
  obtain ⟨E, mo, hE, h1, _⟩ := h
  exact read_of s w (find_none w h1 hs (fl_none hE hf))
theorem read_nil (s : ByteArray) (w : World) :
    Calls Try.prog 37 #[.pointer none, .string s] w fun e w' => e = .returned (.tuple #[.slice none 0 0, .int .i64 1]) ∧ Below w.heap.size w w' := read_of s w (find_nil s w)

set_option maxRecDepth 100000 in
set_option maxHeartbeats 400000 in
theorem loose_some {S : Nat → Prop} {g : Nat} {L : List (ByteArray × Fl)} {wr sy : Nat} {s : ByteArray} {f : Fl} (w : World) (h : Disk w S g L wr sy) (hs : s.size ≤ maxLen) (hf : findP L s = some f) :
    Calls Try.prog 43 #[.pointer (some ⟨g, 0, none⟩), .string s] w fun e w' => e = .returned (.int .i64 ((f.by_.length - f.syn : Nat) : Int)) ∧ Below w.heap.size w w' := by
  obtain ⟨E, mo, rfl, h1, h2⟩ := h
  obtain ⟨x, hx, rfl⟩ := fl_some rfl hf
  have hix := h2.each _ (findP_some hx)
  obtain ⟨A, c, hv⟩ := ownB_slice hix.own
  have hxm := hix.max
  have hxs := hix.syn
  have HC := Lib.hid (find_some w h1 h2 hs hx)
  have HV : Hid (x.v = .slice A x.by_.length c) := hv
  clear hs h1 h2 hx hf hv hix
  go_enter Try.func43, Try.ntmps43
  go_wp2_with fail
  refine HC.out.mono ?_
  rintro e w1 ⟨rfl, hb⟩
  rw [HV.out]
  unfold fileV
  have hb2 := (hb.trans (((Below.refl w.heap.size w1).alloc hb.size (.cells #[.slice A x.by_.length c, .int .i64 x.syn] 126))))
  have HB2 := Lib.hid hb2
  clear hb hb2
  go_wp2
  go_ret
  refine ⟨?_, HB2.out⟩
  show Ending.returned (.int .i64 _) = .returned (.int .i64 ((x.by_.length - x.syn : Nat) : Int))
  congr 2
  omega

end Go.Proofs.Ytgcfofnlgdfmoaa
