/- Layer 6: the document's own disk: Cut. -/
import Derived.Test.YtheojokfgndheaaDkRfCut
import Derived.Deep.QuietTactic
namespace Go.Proofs.Ytheojokfgndheaa
open Go.RowKit Go.Maps

theorem sliceR_k (A : Option Addr) (n c k : Nat) (hk : (k : Int) ≤ c) (w : World) : (Instr.sliceAt 30 (.slice A n c) none (some (.int .i64 k)) none).run Try.prog w = .ok (.slice A k c) w := by
  have hu : Try.prog.underlying 30 = some (.slice (Try.prog.elem 30)) := by kernel_rfl
  have hz : (sizeOf (Try.prog.elem 30)).run Try.prog w = .ok 1 w := by kernel_rfl
  rw [run_sliceAt_slice _ _ _ _ _ _ hu, run_slice_h _ _ _ _ _ hu .i64 (k : Int) (by omega) hk, hz]
  cases A <;> simp [Result.andThen, sliced, Addr.add]

set_option maxRecDepth 100000 in
set_option maxHeartbeats 2000000 in
theorem rcut_some {T : Nat → Prop} {m : Nat} {L : List (ByteArray × Fl)} {wr sy : Nat} {f : Fl} (k : Nat) (s : ByteArray) (w : World) (h : RfL w T m L wr sy) (hr : Rising L) (hs : s.size ≤ maxLen) (hf : findP L s = some f) (hk : k ≤ f.by_.length) :
    Calls Try.prog 15 #[.pointer (some ⟨m, 0, none⟩), .string s, .int .i64 k] w fun e w' => e = .returned (.int .i64 0) ∧ RLeaves w w' T m (putP L s (cutF f k)) wr sy := by
  obtain ⟨i0, hi0, hz0, hz1, hz2⟩ := info_parts Try.infoB
  obtain ⟨v, R, rfl, h⟩ := h
  obtain ⟨i, x, hi, hx, rfl, rfl⟩ := idx_of hf
  have HC := Lib.hid (rfind_any x.s w h hs)
  rw [hi] at HC
  have hil := (List.getElem?_eq_some_iff.1 hx).1
  have hi63 : decide ((i : Int) < 0) = false := decide_eq_false (by omega)
  obtain ⟨g, cap, rfl, hgl, x0, x1, x2, hfz⟩ := h.at_ hx
  have hxx := h.each x (List.mem_of_getElem? hx)
  have hxm := hxx.max
  have hkx : k ≤ x.by_.length := hk
  have hkn : k ≤ x.n := by rw [hxx.n]; exact hkx
  have hk1 : decide ((k : Int) < 0) = false := decide_eq_false (by omega)
  have hk2 : decide ((k : Int) > x.n) = false := decide_eq_false (by omega)
  have hk3 : decide ((x.n : Int) < k) = false := decide_eq_false (by omega)
  have hk4 : decide (x.n < k) = false := decide_eq_false (by omega)
  have hsl := sliceR_k x.A x.n x.c k (by have := hxx.cap; omega)
  have c0 := h.c0
  have hml := h.lt m h.mT
  have Hgm := Lib.hid (h.row g rfl).2
  have Hd := fun A c y => Lib.hid (set_put (y := { x with A := A, n := k, c := c, by_ := x.by_.take k, syn := y }) hr hx rfl)
  have hlen : (x.by_.take k).length = k := by rw [List.length_take]; omega
  have HX := Lib.hid hxx
  have Hx := Lib.hid hx
  have H := Lib.hid h
  have Hkx := Lib.hid hkx
  have Hlen := Lib.hid hlen
  have hkm : k ≤ 1048576 := by omega
  clear h hs hf hi hx hr hxx hk hkx hlen
  go_enter Try.func15, Try.ntmps15
  go_wp2_with fail
  refine HC.out.mono ?_
  rintro e w1 ⟨rfl, rfl⟩
  unfold idxI
  go_wp2
  have HC0 : Hid (∀ W, Below w.heap.size w W → W.cell? ⟨m, 0, none⟩ = some (.slice (some ⟨g, 0, none⟩) R.length cap)) := fun W hW => (hW.cell (p := ⟨m, 0, none⟩) hml).trans c0
  have HC1 : Hid (∀ W, Below w.heap.size w W → W.cell? ⟨g, i * 3 + 1, none⟩ = some (.slice x.A x.n x.c)) := fun W hW => (hW.cell (p := ⟨g, i * 3 + 1, none⟩) hgl).trans x1
  have HC2 : Hid (∀ W, Below w.heap.size w W → W.cell? ⟨g, i * 3 + 2, none⟩ = some (.int .i64 x.syn)) := fun W hW => (hW.cell (p := ⟨g, i * 3 + 2, none⟩) hgl).trans x2
  have HFg : Hid (∀ o W, Below w.heap.size w W → W.frozen? ⟨g, o, none⟩ = false) := fun o W hW => (hW.frozen (p := ⟨g, o, none⟩) hgl).trans (hfz o)
  have HS1 : Hid (∀ W, Below w.heap.size w W → Src W x.A k 1 (cellsB (x.by_.take k))) := fun W hW => src_of_rdB ((HX.out.rd.below hW).take k) Hlen.out.symm
  clear c0 x0 x1 x2 hfz
  refine wp_region_noPanic ?_
  refine keepBegin (S := fun W => Below w.heap.size w W) 19 (by kernel_rfl) ?_ (fun hHeld => ?_)
  · exact (RowKit.Below.refl _ _).drew
  refine keepTake (i := 0) (v := ?_) [0] rfl (by kernel_rfl) (by kernel_rfl) (by kernel_rfl) (by kernel_rfl) (by kernel_rfl) (by kernel_rfl) (fun _ _ _ h => h) (Or.inl ⟨by rfl, ?_⟩) (by assumption) ?_
  rotate_left
  · (intro W hSw; (try dsimp only at hSw); have f0 := HC0.out W hSw; have f1 := HC1.out W hSw; go_simp; try with_reducible rfl)
  try simp only [keepPut, List.set, Nat.zero_add]
  refine keepTake (i := 1) (v := ?_) [1] rfl (by kernel_rfl) (by kernel_rfl) (by kernel_rfl) (by kernel_rfl) (by kernel_rfl) (by kernel_rfl) (fun _ _ _ h => h) (Or.inl ⟨by rfl, ?_⟩) (by assumption) ?_
  rotate_left
  · (intro W hSw; (try dsimp only at hSw); have f0 := HC0.out W hSw; have f1 := HC1.out W hSw; go_simp; try with_reducible rfl)
  try simp only [keepPut, List.set, Nat.zero_add]
  refine keepTake (i := 2) (v := ?_) [2] rfl (by kernel_rfl) (by kernel_rfl) (by kernel_rfl) (by kernel_rfl) (by kernel_rfl) (by kernel_rfl) (fun _ _ _ h => h) (Or.inl ⟨by rfl, ?_⟩) (by assumption) ?_
  rotate_left
  · (intro W hSw; (try dsimp only at hSw); have f0 := HC0.out W hSw; have f1 := HC1.out W hSw; go_simp; try with_reducible rfl)
  try simp only [keepPut, List.set, Nat.zero_add]
  refine keepTake (i := 3) (v := ?_) [3] rfl (by kernel_rfl) (by kernel_rfl) (by kernel_rfl) (by kernel_rfl) (by kernel_rfl) (by kernel_rfl) (fun _ _ _ h => h) (Or.inl ⟨by rfl, ?_⟩) (by assumption) ?_
  rotate_left
  · (intro W hSw; (try dsimp only at hSw); have f0 := HC0.out W hSw; have f1 := HC1.out W hSw; go_simp; try with_reducible rfl)
  try simp only [keepPut, List.set, Nat.zero_add]
  refine keepTake (i := 4) (v := ?_) [4] rfl (by kernel_rfl) (by kernel_rfl) (by kernel_rfl) (by kernel_rfl) (by kernel_rfl) (by kernel_rfl) (fun _ _ _ h => h) (Or.inl ⟨by rfl, ?_⟩) (by assumption) ?_
  rotate_left
  · (intro W hSw; (try dsimp only at hSw); have f0 := HC0.out W hSw; have f1 := HC1.out W hSw; go_simp; try with_reducible rfl)
  try simp only [keepPut, List.set, Nat.zero_add]
  refine keepTake (i := 6) (v := ?_) [6] rfl (by kernel_rfl) (by kernel_rfl) (by kernel_rfl) (by kernel_rfl) (by kernel_rfl) (by kernel_rfl) (fun _ _ _ h => h) (Or.inl ⟨by rfl, ?_⟩) (by assumption) ?_
  rotate_left
  · (intro W hSw; (try dsimp only at hSw); have f0 := HC0.out W hSw; have f1 := HC1.out W hSw; go_simp; try with_reducible rfl)
  try simp only [keepPut, List.set, Nat.zero_add]
  refine keepTake (i := 7) (v := ?_) [7] rfl (by kernel_rfl) (by kernel_rfl) (by kernel_rfl) (by kernel_rfl) (by kernel_rfl) (by kernel_rfl) (fun _ _ _ h => h) (Or.inl ⟨by rfl, ?_⟩) (by assumption) ?_
  rotate_left
  · (intro W hSw; (try dsimp only at hSw); have f0 := HC0.out W hSw; have f1 := HC1.out W hSw; go_simp; try with_reducible rfl)
  try simp only [keepPut, List.set, Nat.zero_add]
  refine keepTake (i := 8) (v := ?_) [8] rfl (by kernel_rfl) (by kernel_rfl) (by kernel_rfl) (by kernel_rfl) (by kernel_rfl) (by kernel_rfl) (fun _ _ _ h => h) (Or.inl ⟨by rfl, ?_⟩) (by assumption) ?_
  rotate_left
  · (intro W hSw; (try dsimp only at hSw); have f0 := HC0.out W hSw; have f1 := HC1.out W hSw; go_simp; try with_reducible rfl)
  try simp only [keepPut, List.set, Nat.zero_add]
  refine keepTake (i := 9) (v := ?_) [9] rfl (by kernel_rfl) (by kernel_rfl) (by kernel_rfl) (by kernel_rfl) (by kernel_rfl) (by kernel_rfl) (fun _ _ _ h => h) (Or.inl ⟨by rfl, ?_⟩) (by assumption) ?_
  rotate_left
  · (intro W hSw; (try dsimp only at hSw); have f0 := HC0.out W hSw; have f1 := HC1.out W hSw; go_simp; try with_reducible rfl)
  try simp only [keepPut, List.set, Nat.zero_add]
  refine keepTake (i := 10) (v := ?_) [10] rfl (by kernel_rfl) (by kernel_rfl) (by kernel_rfl) (by kernel_rfl) (by kernel_rfl) (by kernel_rfl) (fun _ _ _ h => h) (Or.inl ⟨by rfl, ?_⟩) (by assumption) ?_
  rotate_left
  · (intro W hSw; (try dsimp only at hSw); have f0 := HC0.out W hSw; have f1 := HC1.out W hSw; go_simp; try with_reducible rfl)
  try simp only [keepPut, List.set, Nat.zero_add]
  refine keepTake (i := 11) (v := ?_) [11] rfl (by kernel_rfl) (by kernel_rfl) (by kernel_rfl) (by kernel_rfl) (by kernel_rfl) (by kernel_rfl) (fun _ _ _ h => h) (Or.inl ⟨by rfl, ?_⟩) (by assumption) ?_
  rotate_left
  · (intro W hSw; (try dsimp only at hSw); have f0 := HC0.out W hSw; have f1 := HC1.out W hSw; go_simp; try with_reducible rfl)
  try simp only [keepPut, List.set, Nat.zero_add]
  refine keepTake (i := 12) (v := ?_) [12] rfl (by kernel_rfl) (by kernel_rfl) (by kernel_rfl) (by kernel_rfl) (by kernel_rfl) (by kernel_rfl) (fun _ _ _ h => h) (Or.inl ⟨by rfl, ?_⟩) (by assumption) ?_
  rotate_left
  · (intro W hSw; (try dsimp only at hSw); have f0 := HC0.out W hSw; have f1 := HC1.out W hSw; go_simp; try with_reducible rfl)
  try simp only [keepPut, List.set, Nat.zero_add]
  refine keepTake (i := 13) (v := ?_) [13] rfl (by kernel_rfl) (by kernel_rfl) (by kernel_rfl) (by kernel_rfl) (by kernel_rfl) (by kernel_rfl) (fun _ _ _ h => h) (Or.inl ⟨by rfl, ?_⟩) (by assumption) ?_
  rotate_left
  · (intro W hSw; (try dsimp only at hSw); have f0 := HC0.out W hSw; have f1 := HC1.out W hSw; go_simp; try with_reducible rfl)
  try simp only [keepPut, List.set, Nat.zero_add]
  refine keepTake (i := 14) (v := ?_) [14] rfl (by kernel_rfl) (by kernel_rfl) (by kernel_rfl) (by kernel_rfl) (by kernel_rfl) (by kernel_rfl) (fun _ _ _ h => h) (Or.inl ⟨by rfl, ?_⟩) (by assumption) ?_
  rotate_left
  · (intro W hSw; (try dsimp only at hSw); have f0 := HC0.out W hSw; have f1 := HC1.out W hSw; go_simp; try with_reducible rfl)
  try simp only [keepPut, List.set, Nat.zero_add]
  refine keepTake (i := 15) (v := ?_) [15] rfl (by kernel_rfl) (by kernel_rfl) (by kernel_rfl) (by kernel_rfl) (by kernel_rfl) (by kernel_rfl) (fun _ _ _ h => h) (Or.inl ⟨by rfl, ?_⟩) (by assumption) ?_
  rotate_left
  · (intro W hSw; (try dsimp only at hSw); have f0 := HC0.out W hSw; have f1 := HC1.out W hSw; go_simp; try with_reducible rfl)
  try simp only [keepPut, List.set, Nat.zero_add]
  refine keepAll (rs := [5]) (by kernel_rfl) (by simp) (AllReadyK.cons rfl (fun K hK => ?_) AllReadyK.nil)
  go_simp
  refine hK.out _ _ (hHeld.alloc hHeld.size _) (fun hHeld1 => ?_)
  clear hK K
  try simp only [keepPut, List.set, Nat.zero_add]
  refine keepAll (rs := [16]) (by kernel_rfl) (by simp) (AllReadyK.cons rfl (fun K hK => ?_) AllReadyK.nil)
  refine stepF_append rfl (.tmp 33) (.tmp 43) rfl Try.underlying30 hi0 hz0 hz1 hz2 rfl (by decide) (wi := w) hHeld1 rfl (n := 0) (xs := []) (World.ownsRow_made _ #[] 0 (by simp) (Nat.zero_le _) rfl) rfl (HS1.out _ hHeld1) (cellsB_one _) (by unfold maxLen; omega) (by omega) ?_
  intro A4 c4 w2 HO1 HB2 _
  replace HO1 : Hid (w2.ownsRow w.heap.size 5 1 (.slice A4 k c4) k ([] ++ cellsB (x.by_.take k))) := finF HO1 (Nat.zero_add _)
  refine hK.out _ _ HB2 (fun hHeld2 => ?_)
  clear hK K
  try simp only [keepPut, List.set, Nat.zero_add]
  refine keepTake (i := 17) (v := ?_) [18, 17] rfl (by kernel_rfl) (by kernel_rfl) (by kernel_rfl) (by kernel_rfl) (by kernel_rfl) (by kernel_rfl) (fun _ _ _ h => h) (Or.inl ⟨by rfl, ?_⟩) (by assumption) ?_
  rotate_left
  · (intro W hSw; (try dsimp only at hSw); have f0 := HC0.out W hSw; have f1 := HC1.out W hSw; go_simp; try with_reducible rfl)
  try simp only [keepPut, List.set, Nat.zero_add]
  refine keepTake (i := 18) (v := ?_) [18] rfl (by kernel_rfl) (by kernel_rfl) (by kernel_rfl) (by kernel_rfl) (by kernel_rfl) (by kernel_rfl) (fun _ _ _ h => h) (Or.inl ⟨by rfl, ?_⟩) (by assumption) ?_
  rotate_left
  · (intro W hSw; (try dsimp only at hSw); have f0 := HC0.out W hSw; have f1 := HC1.out W hSw; go_simp; try with_reducible rfl)
  try simp only [keepPut, List.set, Nat.zero_add]
  refine keepLast rfl (by kernel_rfl) (fun K hK => ?_)
  have f1 := HC1.out w2 HB2
  have f4 := HFg.out (i * 3 + 1) w2 HB2
  have f5 := Nat.lt_of_lt_of_le hgl HB2.size
  go_simp
  refine hK.out _ _ ?_
  clear hK K
  try simp only [keepPut, List.set, Nat.zero_add]
  refine keepDone (by kernel_rfl) ?_ _
  refine NoPanic.normal ?_
  have e0 := HC0.out w2 HB2
  have e2 := HC2.out w2 HB2
  have fz2 := HFg.out (i * 3 + 2) w2 HB2
  have hgm : g ≠ m := Hgm.out
  have hml2 := Nat.lt_of_lt_of_le hml HB2.size
  have ho : Hid (w2.ownsRow w.heap.size 5 1 (.slice A4 k c4) k (cellsB (x.by_.take k))) := by
    have := HO1.out
    rwa [List.nil_append] at this
  have HOK : Hid (OkB (x.by_.take k)) := fun z hz => HX.out.ok z (List.mem_of_mem_take hz)
  clear f1 f4 HC0 HC1 HC2 HFg HS1 HO1
  by_cases hsk : k < x.syn
  · have hd : decide ((x.syn : Int) > k) = true := decide_eq_true (by omega)
    have hd' : decide ((k : Int) < x.syn) = true := decide_eq_true (by omega)
    have hd4 : decide (k < x.syn) = true := decide_eq_true hsk
    have hm1 : min x.syn k = k := Nat.min_eq_right (by omega)
    obtain ⟨T', h1, h2⟩ := H.out.setBoth (k := k) Hx.out HB2 ho.out HOK.out Hkx.out (Nat.le_of_eq Hlen.out.symm) (by rw [Hlen.out]; have := HX.out.max; have := Hkx.out; omega)
    have hd2 := (Hd A4 c4 k).out
    have K1 := Lib.hid h1
    have K2 := Lib.hid h2
    have KD := Lib.hid hd2
    have KM := Lib.hid hm1
    clear h1 h2 hd2 hm1 hsk ho
    go_wp2
    go_ret
    refine ⟨rfl, T', ⟨_, _, ?_, K1.out⟩, K2.out⟩
    unfold cutF
    rw [KM.out]
    exact KD.out
  · have hd : decide ((x.syn : Int) > k) = false := decide_eq_false (by omega)
    have hd' : decide ((k : Int) < x.syn) = false := decide_eq_false (by omega)
    have hd4 : decide (k < x.syn) = false := decide_eq_false hsk
    have hm1 : min x.syn k = x.syn := Nat.min_eq_left (by omega)
    obtain ⟨T', h1, h2⟩ := H.out.setBytes Hx.out HB2 ho.out HOK.out (by rw [Hlen.out]; omega) (by rw [Hlen.out]; have := HX.out.max; have := Hkx.out; omega)
    have hd2 := (Hd A4 c4 x.syn).out
    have K1 := Lib.hid h1
    have K2 := Lib.hid h2
    have KD := Lib.hid hd2
    have KM := Lib.hid hm1
    clear h1 h2 hd2 hm1 hsk ho
    go_wp2
    go_ret
    refine ⟨rfl, T', ⟨_, _, ?_, K1.out⟩, K2.out⟩
    unfold cutF
    rw [KM.out]
    exact KD.out
end Go.Proofs.Ytheojokfgndheaa
