/- bytes.Clone; bytes as a text. -/
import Derived.Test.YtileaoanekphaaaChecked
import Derived.Test.YtileaoanekphaaaByt
import Derived.WalkKit
import Derived.WalkSpells
import Derived.Lib.AppendZeros
import Derived.Lib.SliceRun
import Derived.Laws.IdiomStrings
namespace Go.Proofs.Ytileaoanekphaaa
open Go.RowKit

theorem Try.infoB : (Try.prog.info? 5).map (fun i => (i.zero, i.size, i.bytes)) = some (some (.int .u8 0), 1, 1) := by kernel_rfl
theorem conv_any {w : World} {B : Nat} {A : Option Addr} {n c : Nat} {l : List Nat} (hr : RdB w B A l) (hn : n = l.length) (hA : A = none → n = 0) :
    (convert 63 9 (.slice A n c)).run Try.prog w = .ok (.string (strB l)) w := by
  rw [run_convert_bytes_string w _ _ _ _ _ _ Try.underlying63 Try.underlying5 Try.underlying9]
  cases A with
  | none =>
    obtain rfl := hA rfl
    obtain rfl : l = [] := List.eq_nil_of_length_eq_zero hn.symm
    rfl
  | some a =>
    have hl := run_loadCells_list (P := Try.prog) w a ((l.map (fun x : Nat => (x : Int))).map (Value.int .u8)) (fun j v hj => by
      have hjl : j < l.length := by have := (List.getElem?_eq_some_iff.1 hj).1; simpa using this
      obtain ⟨b, o, e, _, hc⟩ := hr (by omega)
      injection e with e
      subst e
      rw [Addr.add_lit, hc j _ (List.getElem?_eq_getElem hjl), ← hj]
      simp [List.getElem?_eq_getElem hjl])
    rw [List.length_map, List.length_map, ← hn] at hl
    rw [run_bytesToString w a n c _ hl, foldl_push_ints]
    have he0 : ByteArray.empty.data = #[] := rfl
    rw [he0]
    simp [strB]
end Go.Proofs.Ytileaoanekphaaa
