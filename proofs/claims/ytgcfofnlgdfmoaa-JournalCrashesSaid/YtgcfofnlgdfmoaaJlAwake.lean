/- Layer 7: the statements' fixed fact. -/
import Derived.Test.YtgcfofnlgdfmoaaJlObj
import Derived.Lib.SlBytesConst
namespace Go.Proofs.Ytgcfofnlgdfmoaa
open Go.RowKit Go.Maps

theorem laidR_0 (l : List Nat) : (laidR l)[0]? = some (l.length % 256) := by
  unfold laidR four
  rfl
theorem laidR_8 (l : List Nat) (i : Nat) : (laidR l)[8 + i]? = l[i]? := by
  unfold laidR
  have h4 : (four l.length).length = 4 := rfl
  have h44 : (four (sumN (four l.length ++ l))).length = 4 := rfl
  rw [List.getElem?_append_right (by omega), h4, List.getElem?_append_right (by omega), h44]
  congr 1
  omega

set_option maxRecDepth 100000 in
set_option maxHeartbeats 1000000 in
theorem awake7_any (w : World) : Calls Try.prog 8 #[] w fun e w' => e = .returned (.bool true) ∧ Below w.heap.size w w' := by
  obtain ⟨l5, hl5⟩ : ∃ l5 : List Nat, l5 = [5] := ⟨_, rfl⟩
  have hlen : 1 = l5.length := by rw [hl5]; rfl
  have hok5 : OkB l5 := by rw [hl5]; intro x hx; simp at hx; omega
  have hc5 : cellsB l5 = [.int .u8 5] := by rw [hl5]; rfl
  have h0 : (laidR l5)[0]? = some 1 := by rw [hl5]; exact laidR_0 [5]
  have h8 : (laidR l5)[8]? = some 5 := by rw [hl5]; exact laidR_8 [5] 0
  clear hl5
  have Hlen := Lib.hid hlen
  have Hok5 := Lib.hid hok5
  have Hc5 := Lib.hid hc5
  have H0 := Lib.hid h0
  have H8 := Lib.hid h8
  clear hlen hok5 hc5 h0 h8
  go_enter Try.func8, Try.ntmps8
  go_wp2_with fail
  refine (cnew_any _).mono ?_
  rintro e w1 ⟨rfl, hb1, hz1, hT1⟩
  have HB1 := Lib.hid hb1
  have HT1 := Lib.hid hT1
  have HZ := Lib.hid hz1
  clear hb1 hz1 hT1
  go_wp2_with fail
  have hb2 : Below w1.heap.size w1 (w1.alloc (.cells #[.int .u8 5] 5)) := (Below.refl _ _).alloc (Nat.le_refl _) _
  have hr2 : RdB (w1.alloc (.cells #[.int .u8 5] 5)) (w1.heap.size + 1) (some ⟨w1.heap.size, 0, none⟩) l5 := rdB_block (heap_alloc_new _ _) (by rw [Hc5.out]) _ (by omega)
  have hg := HT1.out.lt
  have hz := HZ.out
  refine (jlay_any w.heap.size 0 0 0 (by decide) (some ⟨w1.heap.size, 0, none⟩) 1 1 l5 (w1.heap.size + 1) _ (HT1.out.below hb2) Hlen.out (by decide) (by decide) (by decide) hr2 (by simp) Hok5.out (fun _ a ha => by cases ha; show w1.heap.size ≠ _; omega)).mono ?_
  rintro e w3 ⟨v, rfl, ho, ht, hT⟩
  obtain ⟨r, cap, rfl, hrb, hrl⟩ := ho.form (by omega)
  have c0 := ho.cells (g := r) rfl 0 (.int .u8 ((1 : Nat) : Int)) (cellsB_get H0.out)
  have c8 := ho.cells (g := r) rfl 8 (.int .u8 ((5 : Nat) : Int)) (cellsB_get H8.out)
  rw [Addr.add_lit] at c0 c8
  have HB3 : Hid (Below w.heap.size w w3) := HB1.out.trans ((hb2.mono HB1.out.size).trans ⟨ht.grown.os, ht.grown.tape, ht.grown.output, ht.grown.size, fun k hk => ht.grown.block k (by have := hb2.size; have := HB1.out.size; omega) (fun e => by injection e with e; omega)⟩)
  clear ho ht hT hb2 hr2
  go_wp2
  go_ret
  exact ⟨rfl, HB3.out⟩
end Go.Proofs.Ytgcfofnlgdfmoaa
