/- Layer 2: (*Table).Open. -/
import Derived.Test.YtbadohcphadjfabCrcSeal
import Derived.Deep.RegionWith
import Derived.Deep.QuietTactic
import Derived.BigQuiet
import Derived.Laws.Cover3
namespace Go.Proofs.Ytbadohcphadjfab
open Go.RowKit

set_option maxHeartbeats 400000 in
theorem open_nil (v : Value) (w : World) :
    Calls Try.prog 12 #[.pointer none, v] w fun e w' => e = .returned (.tuple #[.slice none 0 0, .bool false]) ∧ w = w' := by
  go_enter Try.func12, Try.ntmps12
  go_wp2
  go_ret2
  exact ⟨rfl, rfl⟩
set_option maxHeartbeats 400000 in
theorem open_short (g : Nat) (A : Option Addr) (n c : Nat) (hn : n < 4) (w : World) :
    Calls Try.prog 12 #[.pointer (some ⟨g, 0, none⟩), .slice A n c] w fun e w' => e = .returned (.tuple #[.slice none 0 0, .bool false]) ∧ w = w' := by
  have h4 : decide ((n : Int) < 4) = true := decide_eq_true (by omega)
  go_enter Try.func12, Try.ntmps12
  go_wp2
  go_ret2
  exact ⟨rfl, rfl⟩

set_option maxRecDepth 100000 in
set_option maxHeartbeats 2000000 in
theorem open_any (g d s t : Nat) (hd : d ≤ 1) (b o k c : Nat) (l : List Nat) (x0 x1 x2 x3 : Nat) (okb : Bool) (B : Nat) (w : World) (h : Tab w g d s t) (hn : k = l.length) (hm : k ≤ 1048576) (hc : k + 4 ≤ c) (hs : s < 18446744073709551615) (hbn : t + k < 18446744073709551616)
    (hr : RdB w B (some ⟨b, o, none⟩) (l ++ [x0, x1, x2, x3])) (hB : B ≤ w.heap.size) (hok : OkB l) (hok4 : OkB [x0, x1, x2, x3]) (hbg : b ≠ g) (hyes : (sumN l == takeN [x0, x1, x2, x3]) = okb) :
    Calls Try.prog 12 #[.pointer (some ⟨g, 0, none⟩), .slice (some ⟨b, o, none⟩) (k + 4 : Nat) c] w fun e w' => ∃ v, e = .returned (.tuple #[v, .bool okb]) ∧ w'.ownsRow w.heap.size 5 1 v (if okb then k else 0) (cellsB (if okb then l else [])) ∧ TurnsIn w w' g (fun _ => True) ∧ Tab w' g 1 (s + 1) (t + k) := by
  have h4 : decide (((k + 4 : Nat) : Int) < 4) = false := decide_eq_false (by omega)
  obtain ⟨b', o', e, hb, hcl⟩ := hr (by simp)
  obtain ⟨rfl, rfl⟩ : b = b' ∧ o = o' := by injection e with e; injection e with e1 e2; exact ⟨e1, e2⟩
  clear e
  have hin : RdB w B (some ⟨b, o, none⟩) l := fun _ => ⟨b, o, rfl, hb, fun i x hx => hcl i x (by rw [List.getElem?_append_left (List.getElem?_eq_some_iff.1 hx).1]; exact hx)⟩
  have at4 : ∀ (j x : Nat), [x0, x1, x2, x3][j]? = some x → w.cell? ⟨b, o + k + j, none⟩ = some (.int .u8 x) := fun j x hx => by
    have := hcl (k + j) x (by rw [List.getElem?_append_right (by omega), hn, Nat.add_sub_cancel_left]; exact hx)
    rwa [← Nat.add_assoc] at this
  have c0 : w.cell? ⟨b, o + k, none⟩ = some (.int .u8 x0) := at4 0 _ rfl
  have c1 := at4 1 _ rfl
  have c2 := at4 2 _ rfl
  have c3 := at4 3 _ rfl
  have Hin := Lib.hid hin
  have Hn := Lib.hid hn
  have HT := Lib.hid h
  have Hok := Lib.hid hok
  have Ht : Hid (∀ w : World, Calls Try.prog 14 #[.agg #[.int .u8 x0, .int .u8 x1, .int .u8 x2, .int .u8 x3]] w fun e w' => e = .returned (.int .u32 (takeN [x0, x1, x2, x3] : Nat)) ∧ w' = w.alloc (.cells #[.int .u8 x0, .int .u8 x1, .int .u8 x2, .int .u8 x3] 33)) := fun w => take_eq [x0, x1, x2, x3] rfl hok4 w
  have Hyes := Lib.hid hyes
  clear hr hcl at4 hin hn h hok hyes
  have w1 : IntKind.i64.wrap (((k + 4 : Nat) : Int) - 4) = (k : Int) := by rw [IntKind.wrap_i64]; omega
  go_enter Try.func12, Try.ntmps12
  go_wp2
  go_quiet (fail)
  go_wp2
  clear w1 h4
  have hbw : Below w.heap.size w (w.drewN nq) := ⟨rfl, rfl, rfl, Nat.le_refl _, fun _ _ => rfl⟩
  have c0 : (w.drewN nq).cell? ⟨b, o + k, none⟩ = some (.int .u8 x0) := c0
  have c1 : (w.drewN nq).cell? ⟨b, o + k + 1, none⟩ = some (.int .u8 x1) := c1
  have c2 : (w.drewN nq).cell? ⟨b, o + k + 2, none⟩ = some (.int .u8 x2) := c2
  have c3 : (w.drewN nq).cell? ⟨b, o + k + 3, none⟩ = some (.int .u8 x3) := c3
  have hsz : (w.drewN nq).heap.size = w.heap.size := rfl
  have Hsz := Lib.hid hsz
  clear hsz
  generalize w.drewN nq = wa at *
  have hba : b < wa.heap.size := by have := Hsz.out; omega
  have HTa := Lib.hid (HT.out.below hbw)
  have hga := HTa.out.lt
  have hW : Below wa.heap.size wa (wa.alloc (.cells #[.slice (some ⟨b, o, none⟩) k c] 22)).drew := ((Below.refl _ _).alloc (Nat.le_refl _) _).drew
  have hsum := tsum_any g d s t wa.heap.size hd (some ⟨b, o, none⟩) k c l B (wa.alloc (.cells #[.slice (some ⟨b, o, none⟩) k c] 22)).drew (HTa.out.below hW) Hn.out (by unfold maxLen; omega) hs hbn ((Hin.out.below (hbw.mono hB)).below (hW.mono (by have := Hsz.out; omega))) Hok.out (by intro _ a ha; cases ha; exact hbg) (by omega) (by rw [World.cell?_drew, World.cell?_alloc_at _ _ _ _ rfl]; rfl)
  have HS : Hid (Calls Try.prog 16 #[.pointer (some ⟨g, 0, none⟩), .slice (some ⟨wa.heap.size, 0, none⟩) 1 1] (wa.alloc (.cells #[.slice (some ⟨b, o, none⟩) k c] 22)).drew fun e w' => e = .returned (.int .u32 (sumN l : Nat)) ∧ (TurnsIn wa w' g (fun _ => True) ∧ Tab w' g 1 (s + 1) (t + k)) ∧ b < w'.heap.size ∧ w'.cell? ⟨b, o + k, none⟩ = some (.int .u8 x0) ∧ w'.cell? ⟨b, o + k + 1, none⟩ = some (.int .u8 x1) ∧ w'.cell? ⟨b, o + k + 2, none⟩ = some (.int .u8 x2) ∧ w'.cell? ⟨b, o + k + 3, none⟩ = some (.int .u8 x3)) :=
    hsum.mono fun e w' ⟨he, ht, hT⟩ => by
      have ht2 := (TurnsIn.of_below (P := fun _ => True) hga hW).trans ht
      have hne : some b ≠ some g := fun e => hbg (by injection e)
      exact ⟨he, ⟨ht2, hT⟩, Nat.lt_of_lt_of_le hba ht2.grown.size, ht2.grown.cell c0 hne, ht2.grown.cell c1 hne, ht2.grown.cell c2 hne, ht2.grown.cell c3 hne⟩
  have hat : ∀ (w : World) (a : Option Addr) (c : Nat), (Instr.arrayAt 33 (.slice a 4 c)).run Try.prog w = .ok (.pointer a) w := fun w a c => run_arrayAt w 33 _ 4 a 4 c Try.underlying33 (Nat.le_refl _)
  have HB := Lib.hid hB
  have Hm := Lib.hid hm
  clear hsum hW hok4 hB hb hs hbn hm hd
  go_region_with (first
    | (go_at_call 16; (with_reducible refine HS.out.mono ?_); rintro e w2 ⟨rfl, hT2, hb2, k0, k1, k2, k3⟩; replace hT2 := Lib.hid hT2)
    | (go_at_call 14; (with_reducible refine (Ht.out _).mono ?_); rintro e w3 ⟨rfl, rfl⟩))
  all_goals (
    have HTz := Lib.hid hT2.out
    clear hT2 k0 k1 k2 k3 c0 c1 c2 c3 hat)
  all_goals (
    cases okb with
    | false =>
      have hne : (((sumN l : Nat) : Int) != ((takeN [x0, x1, x2, x3] : Nat) : Int)) = true := by
        have h := Hyes.out
        rw [beq_eq_false_iff_ne] at h
        rw [bne_iff_ne]
        omega
      go_wp2
      go_ret2
      refine ⟨_, rfl, World.ownsRow_nil _ _ _ _, ?_, ?_⟩
      · exact (TurnsIn.of_below HT.out.lt hbw).trans (HTz.out.1.trans (TurnsIn.of_below HTz.out.2.lt (by repeat (first | exact Below.refl _ _ | refine RowKit.Below.drew ?_ | refine RowKit.Below.alloc ?_ (by simp <;> omega) _))))
      · exact HTz.out.2.below (by repeat (first | exact Below.refl _ _ | refine RowKit.Below.drew ?_ | refine RowKit.Below.alloc ?_ (by simp <;> omega) _))
    | true =>
      have hne : (((sumN l : Nat) : Int) != ((takeN [x0, x1, x2, x3] : Nat) : Int)) = false := by
        have h := Hyes.out
        rw [beq_iff_eq] at h
        rw [bne_eq_false_iff_eq]
        omega
      have hsz2 := HTz.out.1.grown.size
      have hr2 := ((Hin.out.below (hbw.mono HB.out)).turned (by intro _ a ha; cases ha; exact hbg) HTz.out.1).more (show B ≤ w2.heap.size by have := HB.out; have := Hsz.out; omega)
      have Hr2 := Lib.hid hr2
      clear hr2
      go_wp2_with fail
      refine (bclone_any (some ⟨b, o, none⟩) k c l _ w2.heap.size Hn.out (fun h => by cases h) (by have := Hm.out; omega) (Hr2.out.below (by repeat (first | exact Below.refl _ _ | refine RowKit.Below.drew ?_ | refine RowKit.Below.alloc ?_ (by simp <;> omega) _))) (by simp <;> omega)).mono ?_
      rintro e w5 ⟨v5, rfl, hown5, hb5⟩
      have hb4 := HTz.out.2.below (w' := w5) ((show Below w2.heap.size w2 _ by repeat (first | exact Below.refl _ _ | refine RowKit.Below.drew ?_ | refine RowKit.Below.alloc ?_ (by simp <;> omega) _)).trans (hb5.mono (by simp <;> omega)))
      have ht5 := TurnsIn.of_below (P := fun _ => True) HTz.out.2.lt ((show Below w2.heap.size w2 _ by repeat (first | exact Below.refl _ _ | refine RowKit.Below.drew ?_ | refine RowKit.Below.alloc ?_ (by simp <;> omega) _)).trans (hb5.mono (by simp <;> omega)))
      have Hown5 := Lib.hid hown5
      clear hown5
      go_wp2
      go_ret2
      refine ⟨_, rfl, ownB_mono Hown5.out (by have := Hsz.out; simp <;> omega), ?_, hb4⟩
      exact (TurnsIn.of_below HT.out.lt hbw).trans (HTz.out.1.trans ht5))
end Go.Proofs.Ytbadohcphadjfab
