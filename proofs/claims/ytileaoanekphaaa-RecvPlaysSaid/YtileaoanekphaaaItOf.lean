/- Layer 4: item.Of, item.Clone. -/
import Derived.Test.YtileaoanekphaaaItPlain
import Derived.Test.YtileaoanekphaaaClone
import Derived.Laws.Rows
import Derived.Laws.Tables
import Derived.Laws.CopyOwn
import Derived.Deep.DeepCutAuto
namespace Go.Proofs.Ytileaoanekphaaa
open Go.RowKit

theorem own_setRow {W : World} {base : Nat} {e : TypeId} {size n g : Nat} {v : Value} {xs : List Value} (h : W.ownsRow base e size v n xs) (hg : g < base) (cs : Array Value) : (W.setRow g cs).ownsRow base e size v n xs := by
  refine ⟨h.1, ?_⟩
  rcases h.2 with hn | ⟨k, cap, cur, rfl, hb, hgg, rest⟩
  · exact .inl hn
  · exact .inr ⟨k, cap, cur, rfl, hb, (setRow_other W g k cs (by omega)).trans hgg, rest⟩
theorem Try.infoI : (Try.prog.info? 43).map (·.size) = some 13 := by kernel_rfl

set_option maxRecDepth 100000 in
set_option maxHeartbeats 1000000 in
theorem of_any (o q t : Int) (r : ByteArray) (A : Option Addr) (n c : Nat) (l : List Pr) (st p v ow : Int) (w : World) (hn : n = l.length) (hA : A = none → n = 0) (hm : n * 32 ≤ 140737488351232) (hr : RdP w w.heap.size A l) :
    Calls Try.prog 24 #[.agg #[.int .u8 o, .int .u64 q, .int .u64 t, .string r, .slice A n c, .int .u8 st, .int .u8 p, .int .i64 v, .int .u8 ow]] w fun e w' => ∃ L, e = .returned (.agg #[.bool false, .int .u8 o, .int .u64 q, .int .u64 t, .string r, L, .int .u8 st, .int .u8 p, .int .i64 v, .int .u8 ow, .int .u8 0, .int .u64 0, .int .u64 0]) ∧ w'.ownsRow w.heap.size 66 2 L n (cellsP l) ∧ Below w.heap.size w w' := by
  obtain ⟨W, hW⟩ : ∃ W, W = ((w.alloc (.cells #[.int .u8 o, .int .u64 q, .int .u64 t, .string r, .slice A n c, .int .u8 st, .int .u8 p, .int .i64 v, .int .u8 ow] 39)).alloc (.cells #[.bool false, .int .u8 0, .int .u64 0, .int .u64 0, .string ⟨#[]⟩, .slice none 0 0, .int .u8 0, .int .u8 0, .int .i64 0, .int .u8 0, .int .u8 0, .int .u64 0, .int .u64 0] 43)) := ⟨_, rfl⟩
  have hb : Below w.heap.size w W := by rw [hW]; exact ((Below.refl _ _).alloc (Nat.le_refl _) _).alloc (by simp) _
  have hz : W.heap.size = w.heap.size + 2 := by rw [hW]; simp
  have h0 : W.heap[w.heap.size]? = some (.cells #[.int .u8 o, .int .u64 q, .int .u64 t, .string r, .slice A n c, .int .u8 st, .int .u8 p, .int .i64 v, .int .u8 ow] 39 (0, 0)) := by rw [hW]; exact heap_alloc2_old _ _ _
  have h1 : W.heap[w.heap.size + 1]? = some (.cells #[.bool false, .int .u8 0, .int .u64 0, .int .u64 0, .string ⟨#[]⟩, .slice none 0 0, .int .u8 0, .int .u8 0, .int .i64 0, .int .u8 0, .int .u8 0, .int .u64 0, .int .u64 0] 43 (0, 0)) := by rw [hW]; exact heap_alloc2_new _ _ _
  have hc := clone_any A n c l W hn hA hm ((hr.below hb).more (by omega))
  have c4 : W.cell? ⟨w.heap.size, 4, none⟩ = some (.slice A n c) := cell_of_row _ _ 4 _ _ _ h0
  have HC := Lib.hid hc
  have HB := Lib.hid hb
  have HZ := Lib.hid hz
  have H0 := Lib.hid h0
  have H1 := Lib.hid h1
  have HW := Lib.hid hW
  clear hn hA hr hb hz h0 h1 hc hW
  go_enter Try.func24, Try.ntmps24
  go_upto_region 1 with fail
  rw [← HW.out]
  go_wp2_with fail
  refine HC.out.mono ?_
  rintro e w1 ⟨L, rfl, ho, hb⟩
  obtain ⟨A2, c2, rfl⟩ := own_slice ho
  have hz := HZ.out
  have g0 := (hb.block w.heap.size (by omega)).trans H0.out
  have g1 := (hb.block (w.heap.size + 1) (by omega)).trans H1.out
  have hs := hb.size
  have G1 := Lib.hid ((heap_setCell_other w1 ⟨w.heap.size, 4, none⟩ (w.heap.size + 1) (.slice A2 n c2) (by simp)).trans g1)
  have G0 := Lib.hid (heap_setCell_same w1 w.heap.size 4 _ _ (.slice A2 n c2) g0)
  have d4 := cell_of_row _ _ 4 _ _ _ g0
  have f4 := frozen_of_row _ _ 4 _ _ g0
  simp at d4
  have HO := Lib.hid ho
  have HB1 := Lib.hid (HB.out.trans (hb.mono (by omega)))
  clear g0 g1 ho hb c4 hz hs
  go_wp2_with (first
    | (refine wpList_load_row rfl _ _ rfl w.heap.size rfl _ _ _ _ G0.out Try.underlying39 rfl (by kernel_rfl) ?_)
    | (refine wpList_store_row rfl _ _ _ rfl (w.heap.size + 1) _ rfl rfl _ _ G1.out Try.infoI rfl (by simp [Value.oneCell']) ?_))
  refine bodyPost_ret (v := .agg #[.bool false, .int .u8 o, .int .u64 q, .int .u64 t, .string r, .slice A2 n c2, .int .u8 st, .int .u8 p, .int .i64 v, .int .u8 ow, .int .u8 0, .int .u64 0, .int .u64 0]) ?_ rfl ⟨_, rfl, ?_, ?_⟩
  · exact results_cell_row rfl _ _ (w.heap.size + 1) _ _ _ _ rfl (setRow_heap _ _ _ _ _ _ G1.out) Try.underlying43 rfl (by kernel_rfl)
  · exact ownB_mono (own_setRow (ownsRow_setCell_below HO.out (by have := HZ.out; simp; omega) _) (by have := HZ.out; omega) _) (by have := HZ.out; omega)
  · exact below_setRow (HB1.out.setCell (p := ⟨w.heap.size, 4, none⟩) (Nat.le_refl _) _) (by omega) _
end Go.Proofs.Ytileaoanekphaaa
