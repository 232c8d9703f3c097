/- Several texts in one: SsIn. -/
import Derived.Test.YtocdhnlffemnhaaQa6
import Derived.Test.YtocdhnlffemnhaaQa10
import Derived.Test.YtocdhnlffemnhaaQa16
import Derived.Test.YtocdhnlffemnhaaQa19
/- Layer 12: the taking end: Receiver, Epoch, begin, NewIn, Answer. -/
namespace Go.Proofs.Ytocdhnlffemnhaa
open Go.RowKit
section
variable {S : Nat → Prop} {i k : Nat} {I : Ix} {V : Rv} {F : Hs}
set_option maxRecDepth 100000 in
set_option maxHeartbeats 400000 in
theorem iepoch_nil (w : World) : Calls Try.prog 16 #[.pointer none] w fun e w' => e = .returned (.int .u64 0) ∧ w = w' := by
  go_enter Try.func16, Try.ntmps16
  go_wp2
  go_ret
  exact ⟨rfl, rfl⟩
set_option maxRecDepth 100000 in
set_option maxHeartbeats 400000 in
theorem ireceiver_nil (w : World) : Calls Try.prog 21 #[.pointer none] w fun e w' => e = .returned (.pointer none) ∧ w = w' := by
  go_enter Try.func21, Try.ntmps21
  go_wp2
  go_ret
  exact ⟨rfl, rfl⟩
set_option maxRecDepth 100000 in
set_option maxHeartbeats 400000 in
theorem ireceiver_any {s : Nat} (w : World) (c5 : w.cell? ⟨i, 5, none⟩ = some (.pointer (some ⟨s, 0, none⟩))) : Calls Try.prog 21 #[.pointer (some ⟨i, 0, none⟩)] w fun e w' => e = .returned (.pointer (some ⟨s, 0, none⟩)) ∧ w = w' := by
  go_enter Try.func21, Try.ntmps21
  go_wp2
  go_ret
  exact ⟨rfl, rfl⟩
set_option maxRecDepth 100000 in
set_option maxHeartbeats 400000 in
theorem ibegin_bad {z n : Int} (ep : Nat) (w : World) (c3 : w.cell? ⟨i, 3, none⟩ = some (.int .i64 z)) (hn : n ≠ 0)
    (HN : ∀ W, Calls Try.prog 10 #[.int .i64 z] W fun e w' => e = .returned (.tuple #[.pointer none, .int .i64 n]) ∧ W = w') :
    Calls Try.prog 27 #[.pointer (some ⟨i, 0, none⟩), .int .u64 ep] w fun e w' => e = .returned (.int .i64 n) ∧ w = w' := by
  have HNN := Lib.hid HN
  have d1 : (n == 0) = false := by rw [beq_eq_false_iff_ne]; exact hn
  have d2 : (n != 0) = true := by rw [bne, d1]; rfl
  clear HN hn
  go_enter Try.func27, Try.ntmps27
  go_wp2_with fail
  refine (HNN.out _).mono ?_
  rintro _ _ ⟨rfl, rfl⟩
  go_wp2
  go_ret
  exact ⟨rfl, rfl⟩
set_option maxRecDepth 100000 in
set_option maxHeartbeats 400000 in
theorem ibegin_gen {v : Value} {ep : Nat} (w : World) (h : w.heap[i]? = some (.cells (inC I v) 80 (0, 0))) (iS : S i) (hlt : ∀ k, S k → k < w.heap.size) (h1 : 1 ≤ I.W) (h2 : I.W ≤ 64) :
    Calls Try.prog 27 #[.pointer (some ⟨i, 0, none⟩), .int .u64 ep] w fun e w' => e = .returned (.int .i64 0) ∧ ∃ S', InAt w' S' i { I with ep := ep } ⟨I.W, 0, 0⟩ (fun _ => none) 0 ∧ Step w S w' S' := by
  have HH := Lib.hid h
  have HL := Lib.hid (⟨iS, hlt⟩ : _ ∧ _)
  have HNN := Lib.hid (fun W => rnew_any I.W h1 h2 W)
  have c3 : w.cell? ⟨i, 3, none⟩ = some (.int .i64 I.W) := cell_of_row _ _ 3 _ _ _ h
  clear h h1 h2 iS hlt
  go_enter Try.func27, Try.ntmps27
  go_wp2_with fail
  refine (HNN.out w).mono ?_
  rintro _ w1 ⟨rfl, hr1, hb1⟩
  have hb := (hb1.block i (HL.out.2 i HL.out.1)).trans HH.out
  have HR1 := Lib.hid hr1
  have HB1 := Lib.hid hb1
  have HBK := Lib.hid hb
  have c4 : w1.cell? ⟨i, 4, none⟩ = some (.int .u64 I.ep) := cell_of_row _ _ 4 _ _ _ hb
  have c5 : w1.cell? ⟨i, 5, none⟩ = some v := cell_of_row _ _ 5 _ _ _ hb
  have f4 : w1.frozen? ⟨i, 4, none⟩ = false := frozen_of_row _ _ 4 _ _ hb
  have f5 : w1.frozen? ⟨i, 5, none⟩ = false := frozen_of_row _ _ 5 _ _ hb
  obtain ⟨s, hs⟩ : ∃ s, s = w.heap.size + 1 := ⟨_, rfl⟩
  have HS := Lib.hid hs
  rw [← hs]
  clear hb hr1 hb1 HNN hs c3
  go_wp2
  go_ret
  have hr := HR1.out
  rw [← HS.out] at hr
  have hn : ∀ k, w.heap.size ≤ k → ¬ S k := fun k hk h => by have := HL.out.2 k h; omega
  refine ⟨rfl, _, in_fresh HBK.out HL.out.1 (fun k hk => Nat.lt_of_lt_of_le (HL.out.2 k hk) HB1.out.size) hr (hn _ (by have := HS.out; omega)) (hn _ (Nat.le_refl _)) _ _ rfl (fun _ _ => rfl), ?_, fun k hk => ?_⟩
  · refine (Only.of_below HB1.out S).trans (T' := fun k => k = i) ((Only.setCell (T := fun k => k = i) _ _ _ rfl).trans (Only.setCell (T := fun k => k = i) _ _ _ rfl) (fun _ h => .inl h)) (fun k hk => .inl (by rw [hk]; exact HL.out.1))
  · rcases hk with hk | hk | hk
    · exact .inl hk
    · have := HS.out; exact .inr (by omega)
    · exact .inr (by omega)
theorem ibegin_any {ep : Nat} (w : World) (h : InAt w S i I V F k) (h1 : 1 ≤ I.W) (h2 : I.W ≤ 64) :
    Calls Try.prog 27 #[.pointer (some ⟨i, 0, none⟩), .int .u64 ep] w fun e w' => e = .returned (.int .i64 0) ∧ ∃ S', InAt w' S' i { I with ep := ep } ⟨I.W, 0, 0⟩ (fun _ => none) 0 ∧ Step w S w' S' := by
  obtain ⟨s, m, q1, _⟩ := h.row
  exact ibegin_gen w q1 h.iS h.lt h1 h2
end
end Go.Proofs.Ytocdhnlffemnhaa
