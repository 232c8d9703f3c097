/- bytes.Clone; bytes as a text. -/
import Derived.Test.YtgcfofnlgdfmoaaChecked
import Derived.Test.YtgcfofnlgdfmoaaByt
import Derived.WalkKit
import Derived.WalkSpells
import Derived.Lib.AppendZeros
import Derived.Lib.SliceRun
import Derived.Laws.IdiomStrings
namespace Go.Proofs.Ytgcfofnlgdfmoaa
open Go.RowKit

theorem Try.infoB : (Try.prog.info? 5).map (fun i => (i.zero, i.size, i.bytes)) = some (some (.int .u8 0), 1, 1) := by kernel_rfl
set_option maxRecDepth 100000 in
set_option maxHeartbeats 400000 in
theorem bclone_any (A : Option Addr) (n c : Nat) (l : List Nat) (w : World) (B : Nat) (hn : n = l.length) (hA : A = none → n = 0) (hm : n ≤ 140737488351232) (hr : RdB w B A l) (hB : B ≤ w.heap.size) :
    Calls Try.prog 87 #[.slice A n c] w fun e w' => ∃ v, e = .returned v ∧ w'.ownsRow w.heap.size 5 1 v n (cellsB l) ∧ Below w.heap.size w w' := by
  obtain ⟨i0, hi, hz0, hz1, hz2⟩ := info_parts Try.infoB
  have q22 : ∀ (w : World) (a : Option Addr) (n c n' c' : Nat), (binOp .eql 37 (.slice a n c) (.slice none n' c')).run Try.prog w = .ok (.bool a.isNone) w := fun w a n c n' c' => Lib.run_eql_slice_nil w _ _ a n c n' c' Try.underlying37
  cases A with
  | none =>
    obtain rfl := hA rfl
    obtain rfl : l = [] := List.eq_nil_of_length_eq_zero hn.symm
    clear hm hn hA hr
    go_enter Try.func87, Try.ntmps87
    go_wp2
    go_ret
    exact ⟨_, rfl, World.ownsRow_nil _ _ _ _, Below.refl _ _⟩
  | some a =>
    have hs1 : Src (w.alloc (.cells #[] 5)) (some a) n 1 (cellsB l) := src_of_rdB (hr.below (((Below.refl _ w).alloc (Nat.le_refl _) _).mono hB)) hn
    have HS := Lib.hid hs1
    have Hm := Lib.hid hm
    clear hs1 hr hA hn hm
    go_enter Try.func87, Try.ntmps87
    go_wp2_with (at_builtin; refine wpList_append_src (base := w.heap.size) rfl _ _ rfl Try.underlying37 hi hz0 hz1 hz2 rfl (by decide) rfl (World.ownsRow_made _ #[] 0 (Nat.le_refl _) (Nat.zero_le _) rfl) rfl HS.out (cellsB_one _) (by have := Hm.out; unfold maxLen; omega) (by have := Hm.out; omega) (by simp) ?_; intro v1 w1 hr1 hg1 hb1; replace hb1 : Below w.heap.size w w1 := ((Below.refl _ w).alloc (Nat.le_refl _) _).grown hg1 (by simp) (fun q hq => by cases hq; exact Nat.le_refl _); replace hr1 := Lib.hid hr1; clear hg1)
    go_ret
    have h := hr1.out
    rw [Nat.zero_add, List.nil_append] at h
    exact ⟨_, rfl, h, hb1⟩

theorem conv_any {w : World} {B : Nat} {A : Option Addr} {n c : Nat} {l : List Nat} (hr : RdB w B A l) (hn : n = l.length) (hA : A = none → n = 0) :
    (convert 37 9 (.slice A n c)).run Try.prog w = .ok (.string (strB l)) w := by
  rw [run_convert_bytes_string w _ _ _ _ _ _ Try.underlying37 Try.underlying5 Try.underlying9]
  cases A with
  | none =>
    obtain rfl := hA rfl
    obtain rfl : l = [] := List.eq_nil_of_length_eq_zero hn.symm
    rfl
  | some a =>
    have hl := run_loadCells_list (P := Try.prog) w a ((l.map (fun x : Nat => (x : Int))).map (Value.int .u8)) (fun j v hj => by
      have hjl : j < l.length := by have := (List.getElem?_eq_some_iff.1 hj).1; simpa using this
      obtain ⟨b, o, e, _, hc⟩ := hr (by omega)
      injection e with e
      subst e
      rw [Addr.add_lit, hc j _ (List.getElem?_eq_getElem hjl), ← hj]
      simp [List.getElem?_eq_getElem hjl])
    rw [List.length_map, List.length_map, ← hn] at hl
    rw [run_bytesToString w a n c _ hl, foldl_push_ints]
    have he0 : ByteArray.empty.data = #[] := rfl
    rw [he0]
    simp [strB]
end Go.Proofs.Ytgcfofnlgdfmoaa
