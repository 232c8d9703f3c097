/- Layer 6: the document's own disk: Append, onto a file that is there. -/
import Derived.Test.YtheojokfgndheaaDkRfRen
import Derived.Deep.QuietTactic
namespace Go.Proofs.Ytheojokfgndheaa
open Go.RowKit Go.Maps

set_option maxRecDepth 100000 in
set_option maxHeartbeats 2000000 in
theorem rappend_some {T : Nat → Prop} {m : Nat} {L : List (ByteArray × Fl)} {wr sy : Nat} {f : Fl} {B : Option Addr} {mm d : Nat} {l : List Nat} (s : ByteArray) (w : World) (h : RfL w T m L wr sy) (hr : Rising L) (hs : s.size ≤ maxLen) (hf : findP L s = some f) (hv : valueB s = true)
    (hm : mm = l.length) (hok : OkB l) (hmax : f.by_.length + mm ≤ 1048576) (hrd : RdB w w.heap.size B l) (hwr : wr ≤ 1000000) :
    Calls Try.prog 25 #[.pointer (some ⟨m, 0, none⟩), .string s, .slice B mm d] w fun e w' => e = .returned (.int .i64 0) ∧ RLeaves w w' T m (putP L s ⟨f.by_ ++ l, f.syn⟩) (wr + 1) sy := by
  obtain ⟨i0, hi0, hz0, hz1, hz2⟩ := info_parts Try.infoB
  obtain ⟨v, R, rfl, h⟩ := h
  obtain ⟨i, x, hi, hx, rfl, rfl⟩ := idx_of hf
  have HC := Lib.hid (rfind_any x.s w h hs)
  have HV := Lib.hid (rvalue_any x.s hs w)
  rw [hi] at HC
  rw [hv] at HV
  have hil := (List.getElem?_eq_some_iff.1 hx).1
  have hi63 : decide ((i : Int) < 0) = false := decide_eq_false (by omega)
  have hi64 : decide ((i : Int) ≥ 0) = true := decide_eq_true (by omega)
  have hi65 : decide ((0 : Int) ≤ i) = true := decide_eq_true (by omega)
  obtain ⟨g, cap, rfl, hgl, x0, x1, x2, hfz⟩ := h.at_ hx
  have hxx := h.each x (List.mem_of_getElem? hx)
  have hxn := hxx.n
  have hnm : x.n + mm ≤ 1048576 := by rw [hxn]; exact hmax
  have hw1 : IntKind.i64.wrap ((x.n : Int) + mm) = (x.n : Int) + mm := IntWalk.i64_in _ (by omega)
  have hw2 : decide ((x.n : Int) + mm > 1048576) = false := decide_eq_false (by omega)
  have hw3 : decide ((1048576 : Int) < (x.n : Int) + mm) = false := decide_eq_false (by omega)
  have c0 := h.c0
  have c1 := h.c1
  have fz1 := h.fz 1
  have fg := hfz (i * 3 + 1)
  have hml := h.lt m h.mT
  have Hd := fun A c => Lib.hid (set_put (y := { x with A := A, n := x.n + mm, c := c, by_ := x.by_ ++ l }) hr hx rfl)
  have HX := Lib.hid hxx
  have Hx := Lib.hid hx
  have H := Lib.hid h
  have Hmm := Lib.hid hm
  have Hok := Lib.hid hok
  have Hrd := Lib.hid hrd
  clear h hs hf hi hx hr hfz hxx hxn hm hok hrd hmax hv
  go_enter Try.func25, Try.ntmps25
  go_wp2_with fail
  refine HV.out.mono ?_
  rintro e w1 ⟨rfl, rfl⟩
  go_wp2_with fail
  refine HC.out.mono ?_
  rintro e w1 ⟨rfl, rfl⟩
  unfold idxI
  go_wp2
  have hgl2 : g < w.heap.size := hgl
  have HC0 : Hid (∀ W, Below w.heap.size w W → W.cell? ⟨m, 0, none⟩ = some (.slice (some ⟨g, 0, none⟩) R.length cap)) := fun W hW => (hW.cell (p := ⟨m, 0, none⟩) hml).trans c0
  have HC1 : Hid (∀ W, Below w.heap.size w W → W.cell? ⟨g, i * 3 + 1, none⟩ = some (.slice x.A x.n x.c)) := fun W hW => (hW.cell (p := ⟨g, i * 3 + 1, none⟩) hgl).trans x1
  have HFg : Hid (∀ W, Below w.heap.size w W → W.frozen? ⟨g, i * 3 + 1, none⟩ = false) := fun W hW => (hW.frozen (p := ⟨g, i * 3 + 1, none⟩) hgl).trans fg
  have HS1 : Hid (∀ W, Below w.heap.size w W → Src W x.A x.n 1 (cellsB x.by_)) := fun W hW => src_of_rdB (HX.out.rd.below hW) HX.out.n
  have HS2 : Hid (∀ W, Below w.heap.size w W → Src W B mm 1 (cellsB l)) := fun W hW => src_of_rdB (Hrd.out.below hW) Hmm.out
  have Hc1 : Hid (∀ W, Below w.heap.size w W → W.cell? ⟨m, 1, none⟩ = some (.int .i64 wr)) := fun W hW => (hW.cell (p := ⟨m, 1, none⟩) hml).trans c1
  have Hf1 : Hid (∀ W, Below w.heap.size w W → W.frozen? ⟨m, 1, none⟩ = false) := fun W hW => (hW.frozen (p := ⟨m, 1, none⟩) hml).trans fz1
  clear c0 c1 x0 x1 x2 fg fz1
  refine wp_region_noPanic ?_
  refine keepBegin (S := fun W => Below w.heap.size w W) 19 (by kernel_rfl) ?_ (fun hHeld => ?_)
  · exact (RowKit.Below.refl _ _).drew
  refine keepTake (i := 0) (v := ?_) [0] rfl (by kernel_rfl) (by kernel_rfl) (by kernel_rfl) (by kernel_rfl) (by kernel_rfl) (by kernel_rfl) (fun _ _ _ h => h) (Or.inl ⟨by rfl, ?_⟩) (by assumption) ?_
  rotate_left
  · (intro W hSw; (try dsimp only at hSw); have f0 := HC0.out W hSw; have f1 := HC1.out W hSw; go_simp; try with_reducible rfl)
  try simp only [keepPut, List.set, Nat.zero_add]
  refine keepTake (i := 1) (v := ?_) [1] rfl (by kernel_rfl) (by kernel_rfl) (by kernel_rfl) (by kernel_rfl) (by kernel_rfl) (by kernel_rfl) (fun _ _ _ h => h) (Or.inl ⟨by rfl, ?_⟩) (by assumption) ?_
  rotate_left
  · (intro W hSw; (try dsimp only at hSw); have f0 := HC0.out W hSw; have f1 := HC1.out W hSw; go_simp; try with_reducible rfl)
  try simp only [keepPut, List.set, Nat.zero_add]
  refine keepTake (i := 2) (v := ?_) [2] rfl (by kernel_rfl) (by kernel_rfl) (by kernel_rfl) (by kernel_rfl) (by kernel_rfl) (by kernel_rfl) (fun _ _ _ h => h) (Or.inl ⟨by rfl, ?_⟩) (by assumption) ?_
  rotate_left
  · (intro W hSw; (try dsimp only at hSw); have f0 := HC0.out W hSw; have f1 := HC1.out W hSw; go_simp; try with_reducible rfl)
  try simp only [keepPut, List.set, Nat.zero_add]
  refine keepTake (i := 3) (v := ?_) [3] rfl (by kernel_rfl) (by kernel_rfl) (by kernel_rfl) (by kernel_rfl) (by kernel_rfl) (by kernel_rfl) (fun _ _ _ h => h) (Or.inl ⟨by rfl, ?_⟩) (by assumption) ?_
  rotate_left
  · (intro W hSw; (try dsimp only at hSw); have f0 := HC0.out W hSw; have f1 := HC1.out W hSw; go_simp; try with_reducible rfl)
  try simp only [keepPut, List.set, Nat.zero_add]
  refine keepTake (i := 4) (v := ?_) [4] rfl (by kernel_rfl) (by kernel_rfl) (by kernel_rfl) (by kernel_rfl) (by kernel_rfl) (by kernel_rfl) (fun _ _ _ h => h) (Or.inl ⟨by rfl, ?_⟩) (by assumption) ?_
  rotate_left
  · (intro W hSw; (try dsimp only at hSw); have f0 := HC0.out W hSw; have f1 := HC1.out W hSw; go_simp; try with_reducible rfl)
  try simp only [keepPut, List.set, Nat.zero_add]
  refine keepTake (i := 6) (v := ?_) [6] rfl (by kernel_rfl) (by kernel_rfl) (by kernel_rfl) (by kernel_rfl) (by kernel_rfl) (by kernel_rfl) (fun _ _ _ h => h) (Or.inl ⟨by rfl, ?_⟩) (by assumption) ?_
  rotate_left
  · (intro W hSw; (try dsimp only at hSw); have f0 := HC0.out W hSw; have f1 := HC1.out W hSw; go_simp; try with_reducible rfl)
  try simp only [keepPut, List.set, Nat.zero_add]
  refine keepTake (i := 7) (v := ?_) [7] rfl (by kernel_rfl) (by kernel_rfl) (by kernel_rfl) (by kernel_rfl) (by kernel_rfl) (by kernel_rfl) (fun _ _ _ h => h) (Or.inl ⟨by rfl, ?_⟩) (by assumption) ?_
  rotate_left
  · (intro W hSw; (try dsimp only at hSw); have f0 := HC0.out W hSw; have f1 := HC1.out W hSw; go_simp; try with_reducible rfl)
  try simp only [keepPut, List.set, Nat.zero_add]
  refine keepTake (i := 8) (v := ?_) [8] rfl (by kernel_rfl) (by kernel_rfl) (by kernel_rfl) (by kernel_rfl) (by kernel_rfl) (by kernel_rfl) (fun _ _ _ h => h) (Or.inl ⟨by rfl, ?_⟩) (by assumption) ?_
  rotate_left
  · (intro W hSw; (try dsimp only at hSw); have f0 := HC0.out W hSw; have f1 := HC1.out W hSw; go_simp; try with_reducible rfl)
  try simp only [keepPut, List.set, Nat.zero_add]
  refine keepTake (i := 9) (v := ?_) [9] rfl (by kernel_rfl) (by kernel_rfl) (by kernel_rfl) (by kernel_rfl) (by kernel_rfl) (by kernel_rfl) (fun _ _ _ h => h) (Or.inl ⟨by rfl, ?_⟩) (by assumption) ?_
  rotate_left
  · (intro W hSw; (try dsimp only at hSw); have f0 := HC0.out W hSw; have f1 := HC1.out W hSw; go_simp; try with_reducible rfl)
  try simp only [keepPut, List.set, Nat.zero_add]
  refine keepTake (i := 10) (v := ?_) [10] rfl (by kernel_rfl) (by kernel_rfl) (by kernel_rfl) (by kernel_rfl) (by kernel_rfl) (by kernel_rfl) (fun _ _ _ h => h) (Or.inl ⟨by rfl, ?_⟩) (by assumption) ?_
  rotate_left
  · (intro W hSw; (try dsimp only at hSw); have f0 := HC0.out W hSw; have f1 := HC1.out W hSw; go_simp; try with_reducible rfl)
  try simp only [keepPut, List.set, Nat.zero_add]
  refine keepTake (i := 11) (v := ?_) [11] rfl (by kernel_rfl) (by kernel_rfl) (by kernel_rfl) (by kernel_rfl) (by kernel_rfl) (by kernel_rfl) (fun _ _ _ h => h) (Or.inl ⟨by rfl, ?_⟩) (by assumption) ?_
  rotate_left
  · (intro W hSw; (try dsimp only at hSw); have f0 := HC0.out W hSw; have f1 := HC1.out W hSw; go_simp; try with_reducible rfl)
  try simp only [keepPut, List.set, Nat.zero_add]
  refine keepTake (i := 12) (v := ?_) [12] rfl (by kernel_rfl) (by kernel_rfl) (by kernel_rfl) (by kernel_rfl) (by kernel_rfl) (by kernel_rfl) (fun _ _ _ h => h) (Or.inl ⟨by rfl, ?_⟩) (by assumption) ?_
  rotate_left
  · (intro W hSw; (try dsimp only at hSw); have f0 := HC0.out W hSw; have f1 := HC1.out W hSw; go_simp; try with_reducible rfl)
  try simp only [keepPut, List.set, Nat.zero_add]
  refine keepTake (i := 13) (v := ?_) [13] rfl (by kernel_rfl) (by kernel_rfl) (by kernel_rfl) (by kernel_rfl) (by kernel_rfl) (by kernel_rfl) (fun _ _ _ h => h) (Or.inl ⟨by rfl, ?_⟩) (by assumption) ?_
  rotate_left
  · (intro W hSw; (try dsimp only at hSw); have f0 := HC0.out W hSw; have f1 := HC1.out W hSw; go_simp; try with_reducible rfl)
  try simp only [keepPut, List.set, Nat.zero_add]
  refine keepTake (i := 15) (v := ?_) [15] rfl (by kernel_rfl) (by kernel_rfl) (by kernel_rfl) (by kernel_rfl) (by kernel_rfl) (by kernel_rfl) (fun _ _ _ h => h) (Or.inl ⟨by rfl, ?_⟩) (by assumption) ?_
  rotate_left
  · (intro W hSw; (try dsimp only at hSw); have f0 := HC0.out W hSw; have f1 := HC1.out W hSw; go_simp; try with_reducible rfl)
  try simp only [keepPut, List.set, Nat.zero_add]
  refine keepAll (rs := [5]) (by kernel_rfl) (by simp) (AllReadyK.cons rfl (fun K hK => ?_) AllReadyK.nil)
  go_simp
  refine hK.out _ _ (hHeld.alloc hHeld.size _) (fun hHeld1 => ?_)
  clear hK K
  try simp only [keepPut, List.set, Nat.zero_add]
  refine keepAll (rs := [14]) (by kernel_rfl) (by simp) (AllReadyK.cons rfl (fun K hK => ?_) AllReadyK.nil)
  refine stepF_append rfl (.tmp 55) (.tmp 63) rfl Try.underlying30 hi0 hz0 hz1 hz2 rfl (by decide) (wi := w) hHeld1 rfl (n := 0) (xs := []) (World.ownsRow_made _ #[] 0 (by simp) (Nat.zero_le _) rfl) rfl (HS1.out _ hHeld1) (cellsB_one _) (by unfold maxLen; omega) (by omega) ?_
  intro A4 c4 w1 HO1 HB1 _
  replace HO1 : Hid (w1.ownsRow w.heap.size 5 1 (.slice A4 x.n c4) x.n ([] ++ cellsB x.by_)) := finF HO1 (Nat.zero_add _)
  refine hK.out _ _ HB1 (fun hHeld2 => ?_)
  clear hK K
  try simp only [keepPut, List.set, Nat.zero_add]
  refine keepAll (rs := [16]) (by kernel_rfl) (by simp) (AllReadyK.cons rfl (fun K hK => ?_) AllReadyK.nil)
  refine stepF_append rfl (.tmp 64) (.tmp 65) rfl Try.underlying30 hi0 hz0 hz1 hz2 rfl (by decide) (wi := w) HB1 rfl HO1.out rfl (HS2.out _ HB1) (cellsB_one _) (by unfold maxLen; omega) (by omega) ?_
  intro A5 c5 w2 HO2 HB2 _
  replace HO2 := Lib.hid HO2
  refine hK.out _ _ HB2 (fun hHeld3 => ?_)
  clear hK K
  try simp only [keepPut, List.set, Nat.zero_add]
  refine keepTake (i := 17) (v := ?_) [18, 17] rfl (by kernel_rfl) (by kernel_rfl) (by kernel_rfl) (by kernel_rfl) (by kernel_rfl) (by kernel_rfl) (fun _ _ _ h => h) (Or.inl ⟨by rfl, ?_⟩) (by assumption) ?_
  rotate_left
  · (intro W hSw; (try dsimp only at hSw); have f0 := HC0.out W hSw; have f1 := HC1.out W hSw; go_simp; try with_reducible rfl)
  try simp only [keepPut, List.set, Nat.zero_add]
  refine keepTake (i := 18) (v := ?_) [18] rfl (by kernel_rfl) (by kernel_rfl) (by kernel_rfl) (by kernel_rfl) (by kernel_rfl) (by kernel_rfl) (fun _ _ _ h => h) (Or.inl ⟨by rfl, ?_⟩) (by assumption) ?_
  rotate_left
  · (intro W hSw; (try dsimp only at hSw); have f0 := HC0.out W hSw; have f1 := HC1.out W hSw; go_simp; try with_reducible rfl)
  try simp only [keepPut, List.set, Nat.zero_add]
  refine keepLast rfl (by kernel_rfl) (fun K hK => ?_)
  have f1 := HC1.out w2 HB2
  have f4 := HFg.out w2 HB2
  have f5 := Nat.lt_of_lt_of_le hgl HB2.size
  go_simp
  refine hK.out _ _ ?_
  clear hK K
  try simp only [keepPut, List.set, Nat.zero_add]
  refine keepDone (by kernel_rfl) ?_ _
  refine NoPanic.normal ?_
  have ho : w2.ownsRow w.heap.size 5 1 (.slice A5 (x.n + mm) c5) (x.n + mm) (cellsB (x.by_ ++ l)) := by
    have := HO2.out
    rwa [List.nil_append, ← cellsB_append] at this
  obtain ⟨T', h1, h2⟩ := H.out.setBytes Hx.out HB2 ho (HX.out.ok.append Hok.out) (by have := HX.out.syn; rw [List.length_append]; omega) (by have := HX.out.n; have := Hmm.out; rw [List.length_append]; omega)
  have d1 := h1.c1
  have df := h1.fz 1
  have dl := h1.lt m h1.mT
  have K1 := Lib.hid h1
  have K2 := Lib.hid h2
  clear h1 h2 f1 f4 f5 ho HC0 HC1 HFg HS1 HS2 Hc1 Hf1
  go_wp2
  go_ret
  exact ⟨rfl, T', ⟨_, _, (Hd _ _).out, K1.out.setWr (wr + 1)⟩, K2.out.setG K1.out.mT _ _⟩
end Go.Proofs.Ytheojokfgndheaa
