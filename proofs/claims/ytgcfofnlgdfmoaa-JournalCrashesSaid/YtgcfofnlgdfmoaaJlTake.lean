/- Layer 7: journal.Take. -/
import Derived.Test.YtgcfofnlgdfmoaaJlLay
import Derived.Test.YtgcfofnlgdfmoaaJlCutB
import Derived.Test.YtgcfofnlgdfmoaaHeld
import Derived.Deep.RegionWith
import Derived.Deep.QuietTactic
import Derived.BigQuiet
import Derived.Laws.Cover3
namespace Go.Proofs.Ytgcfofnlgdfmoaa
open Go.RowKit

set_option maxRecDepth 100000 in
set_option maxHeartbeats 400000 in
theorem jtake_nil (v : Value) (w : World) :
    Calls Try.prog 68 #[.pointer none, v] w fun e w' => e = .returned (.tuple #[.slice none 0 0, .int .i64 0, .bool false]) ∧ w = w' := by
  go_enter Try.func68, Try.ntmps68
  go_wp2
  go_ret3
  exact ⟨rfl, rfl⟩
set_option maxRecDepth 100000 in
set_option maxHeartbeats 400000 in
theorem jtake_short (g : Nat) (A : Option Addr) (n c : Nat) (hn : n < 8) (w : World) :
    Calls Try.prog 68 #[.pointer (some ⟨g, 0, none⟩), .slice A n c] w fun e w' => e = .returned (.tuple #[.slice none 0 0, .int .i64 0, .bool false]) ∧ w = w' := by
  have h8 : decide ((n : Int) < 8) = true := decide_eq_true (by omega)
  go_enter Try.func68, Try.ntmps68
  go_wp2
  go_ret3
  exact ⟨rfl, rfl⟩

/-- what Take leaves where there is no record -/
def NoTake (l : List Nat) (g s t n : Nat) (w : World) (e : Ending) (w' : World) : Prop :=
  takeJ l = none ∧ e = .returned (.tuple #[.slice none 0 0, .int .i64 0, .bool false]) ∧ (∃ d' s' t', d' ≤ 1 ∧ s' ≤ s + 1 ∧ t' ≤ t + n ∧ Tab w' g d' s' t') ∧ TurnsIn w w' g (fun _ => True)
/-- what Take leaves where there is one -/
def YesTake (l : List Nat) (g s t : Nat) (w : World) (e : Ending) (w' : World) : Prop :=
  ∃ x v, takeJ l = some x ∧ e = .returned (.tuple #[v, .int .i64 ((x.length + 8 : Nat) : Int), .bool true]) ∧ w'.ownsRow w.heap.size 5 1 v x.length (cellsB x) ∧ Tab w' g 1 (s + 1) (t + 4 + x.length) ∧ TurnsIn w w' g (fun _ => True)

set_option maxRecDepth 100000 in
set_option maxHeartbeats 4000000 in
theorem jtake_any (g d s t : Nat) (hd : d ≤ 1) (A : Option Addr) (n c : Nat) (l : List Nat) (B : Nat) (w : World) (h : Tab w g d s t) (hn : n = l.length) (hc : n ≤ c) (hm : n ≤ 100000000) (hs : s < 1000000000) (htb : t < 1000000000000) (hr : RdB w B A l) (hB : B ≤ w.heap.size) (hok : OkB l) (hoff : Off A g l) :
    Calls Try.prog 68 #[.pointer (some ⟨g, 0, none⟩), .slice A n c] w fun e w' => NoTake l g s t n w e w' ∨ YesTake l g s t w e w' := by
  by_cases h8 : n < 8
  · refine (jtake_short g A n c h8 w).mono ?_
    rintro e w' ⟨rfl, rfl⟩
    refine .inl ⟨?_, rfl, ⟨d, s, t, hd, by omega, by omega, h⟩, TurnsIn.refl _ _ _⟩
    unfold takeJ
    rw [if_pos (by omega)]
  · have h8d : decide ((n : Int) < 8) = false := decide_eq_false (by omega)
    obtain ⟨b, o, rfl, hb, hcl⟩ := hr (by omega)
    have hbg : b ≠ g := hoff (by omega) _ rfl
    obtain ⟨x0, x1, x2, x3, x4, x5, x6, x7, r, hl⟩ : ∃ x0 x1 x2 x3 x4 x5 x6 x7 r, l = x0 :: x1 :: x2 :: x3 :: x4 :: x5 :: x6 :: x7 :: r := by
      match l, hn with
      | [], hn => simp at hn; omega
      | [_], hn => simp at hn; omega
      | [_, _], hn => simp at hn; omega
      | [_, _, _], hn => simp at hn; omega
      | [_, _, _, _], hn => simp at hn; omega
      | [_, _, _, _, _], hn => simp at hn; omega
      | [_, _, _, _, _, _], hn => simp at hn; omega
      | [_, _, _, _, _, _, _], hn => simp at hn; omega
      | x0 :: x1 :: x2 :: x3 :: x4 :: x5 :: x6 :: x7 :: r, _ => exact ⟨_, _, _, _, _, _, _, _, _, rfl⟩
    have e4 : l.take 4 = [x0, x1, x2, x3] := by rw [hl]; rfl
    have e44 : (l.drop 4).take 4 = [x4, x5, x6, x7] := by rw [hl]; rfl
    have q0 : w.cell? ⟨b, o, none⟩ = some (.int .u8 x0) := hcl 0 x0 (by rw [hl]; rfl)
    have q1 : w.cell? ⟨b, o + 1, none⟩ = some (.int .u8 x1) := hcl 1 x1 (by rw [hl]; rfl)
    have q2 : w.cell? ⟨b, o + 2, none⟩ = some (.int .u8 x2) := hcl 2 x2 (by rw [hl]; rfl)
    have q3 : w.cell? ⟨b, o + 3, none⟩ = some (.int .u8 x3) := hcl 3 x3 (by rw [hl]; rfl)
    have q4 : w.cell? ⟨b, o + 4, none⟩ = some (.int .u8 x4) := hcl 4 x4 (by rw [hl]; rfl)
    have q5 : w.cell? ⟨b, o + 4 + 1, none⟩ = some (.int .u8 x5) := hcl 5 x5 (by rw [hl]; rfl)
    have q6 : w.cell? ⟨b, o + 4 + 2, none⟩ = some (.int .u8 x6) := hcl 6 x6 (by rw [hl]; rfl)
    have q7 : w.cell? ⟨b, o + 4 + 3, none⟩ = some (.int .u8 x7) := hcl 7 x7 (by rw [hl]; rfl)
    have hok4 : OkB [x0, x1, x2, x3] := e4 ▸ hok.take 4
    have hok44 : OkB [x4, x5, x6, x7] := e44 ▸ (hok.drop 4).take 4
    obtain ⟨N, hN⟩ : ∃ N : Nat, N = takeN [x0, x1, x2, x3] := ⟨_, rfl⟩
    obtain ⟨M, hM⟩ : ∃ M : Nat, M = takeN [x4, x5, x6, x7] := ⟨_, rfl⟩
    have hNl : N < 4294967296 := by rw [hN]; exact takeN_lt rfl hok4
    have hMl : M < 4294967296 := by rw [hM]; exact takeN_lt rfl hok44
    have htk1 : ∀ w : World, Calls Try.prog 86 #[.agg #[.int .u8 x0, .int .u8 x1, .int .u8 x2, .int .u8 x3]] w fun e w' => e = .returned (.int .u32 (N : Int)) ∧ Below w.heap.size w w' := fun w => by rw [hN]; exact ctake_any [x0, x1, x2, x3] rfl hok4 w
    have htk2 : ∀ w : World, Calls Try.prog 86 #[.agg #[.int .u8 x4, .int .u8 x5, .int .u8 x6, .int .u8 x7]] w fun e w' => e = .returned (.int .u32 (M : Int)) ∧ Below w.heap.size w w' := fun w => by rw [hM]; exact ctake_any [x4, x5, x6, x7] rfl hok44 w
    have Htk1 := Lib.hid htk1
    have Hta := Lib.hid htk2
    have hTJ : takeJ l = if 524288 < N ∨ n - 8 < N then none else if sumN ([x0, x1, x2, x3] ++ (l.drop 8).take N) = M then some ((l.drop 8).take N) else none := by
      unfold takeJ
      rw [if_neg (by omega), e4, e44, ← hN, ← hM, hn]
    have HTJ := Lib.hid hTJ
    have HT := Lib.hid h
    have Hn := Lib.hid hn
    have Hr := Lib.hid hr
    have Hok := Lib.hid hok
    have Hoff := Lib.hid hoff
    have Hok4 := Lib.hid hok4
    have Hr4 := Lib.hid (e4 ▸ hr.take 4 : RdB w B (some ⟨b, o, none⟩) [x0, x1, x2, x3])
    have Hoff4 := Lib.hid (show Off (some ⟨b, o, none⟩) g [x0, x1, x2, x3] from fun _ a ha => by cases ha; exact hbg)
    have s4 := fun w => slB_h (some ⟨b, o, none⟩) n c 4 4 rfl (by omega) w
    have s48 : ∀ w : World, (Instr.sliceAt 37 (.slice (some ⟨b, o, none⟩) n c) (some (.int .i64 4)) (some (.int .i64 8)) none).run Try.prog w = .ok (.slice (some ⟨b, o + 4, none⟩) 4 (c - 4)) w := fun w => by
      have := slB_lh (some ⟨b, o, none⟩) n c 4 8 4 8 rfl rfl (by omega) (by omega) w
      rwa [subA_some (by omega) rfl] at this
    have hat : ∀ (w : World) (a : Option Addr) (c : Nat), (Instr.arrayAt 152 (.slice a 4 c)).run Try.prog w = .ok (.pointer a) w := fun w a c => run_arrayAt w 152 _ 4 a 4 c Try.underlying152 (Nat.le_refl _)
    have hw8 : IntKind.i64.wrap ((n : Int) - 8) = (n : Int) - 8 := by rw [IntKind.wrap_i64]; omega
    have hwN : IntKind.i64.wrap (N : Int) = N := by rw [IntKind.wrap_i64]; omega
    clear h hn hr hok hoff hl e4 e44 hok4 hok44 hN hM htk1 htk2 hTJ hcl
    go_enter Try.func68, Try.ntmps68
    go_wp2_with fail
    refine (Htk1.out _).mono ?_
    rintro e w1 ⟨rfl, hb1⟩
    have HT1 := Lib.hid (HT.out.below hb1)
    have hb1w := hb1
    have Ht1 := Lib.hid (TurnsIn.of_below (P := fun _ => True) HT.out.lt hb1)
    by_cases hbig : 524288 < N ∨ n - 8 < N
    · have hno : Hid (takeJ l = none) := by show _ = _; rw [HTJ.out, if_pos hbig]
      rcases (by omega : 524288 < N ∨ (¬ 524288 < N ∧ n - 8 < N)) with hb2 | ⟨hb2, hb3⟩
      · have d1 : decide ((N : Int) > 524288) = true := decide_eq_true (by omega)
        have d2 : decide ((524288 : Int) < N) = true := decide_eq_true (by omega)
        clear hbig
        go_wp2
        go_ret3
        exact .inl ⟨hno.out, rfl, ⟨d, s, t, hd, by omega, by omega, HT1.out⟩, Ht1.out⟩
      · have d1 : decide ((N : Int) > 524288) = false := decide_eq_false (by omega)
        have d2 : decide ((524288 : Int) < N) = false := decide_eq_false (by omega)
        have d3 : decide ((N : Int) > (n : Int) - 8) = true := decide_eq_true (by omega)
        have d4 : decide ((n : Int) - 8 < (N : Int)) = true := decide_eq_true (by omega)
        clear hbig
        go_wp2
        go_ret3
        exact .inl ⟨hno.out, rfl, ⟨d, s, t, hd, by omega, by omega, HT1.out⟩, Ht1.out⟩
    · have d1 : decide ((N : Int) > 524288) = false := decide_eq_false (by omega)
      have d2 : decide ((524288 : Int) < N) = false := decide_eq_false (by omega)
      have d3 : decide ((N : Int) > (n : Int) - 8) = false := decide_eq_false (by omega)
      have d4 : decide ((n : Int) - 8 < (N : Int)) = false := decide_eq_false (by omega)
      have hNn : 8 + N ≤ n := by omega
      have hN5 : N ≤ 524288 := by omega
      have HTJ2 : Hid (takeJ l = if sumN ([x0, x1, x2, x3] ++ (l.drop 8).take N) = M then some ((l.drop 8).take N) else none) := by show _ = _; rw [HTJ.out, if_neg hbig]
      obtain ⟨C, hC⟩ : ∃ C, C = (l.drop 8).take N := ⟨_, rfl⟩
      rw [← hC] at HTJ2
      have hCl : N = C.length := by rw [hC, List.length_take, List.length_drop, ← Hn.out]; omega
      have HCl := Lib.hid hCl
      obtain ⟨A8, hA8⟩ : ∃ A8, A8 = subA (some ⟨b, o, none⟩) c 8 := ⟨_, rfl⟩
      have s8N : ∀ w : World, (Instr.sliceAt 37 (.slice (some ⟨b, o, none⟩) n c) (some (.int .i64 8)) (some (.int .i64 (8 + (N : Int)))) none).run Try.prog w = .ok (.slice A8 N (c - 8)) w := fun w => by
        have := slB_lh (some ⟨b, o, none⟩) n c 8 (8 + N) 8 (8 + (N : Int)) rfl (by omega) (by omega) (by omega) w
        rwa [← hA8, Nat.add_sub_cancel_left] at this
      have Hr8 : Hid (RdB w B A8 C) := by show RdB _ _ _ _; rw [hA8, hC]; exact (Hr.out.sub (by have := Hn.out; omega)).take N
      have Hok8 : Hid (OkB C) := by show OkB _; rw [hC]; exact (Hok.out.drop 8).take N
      have Hoff8 : Hid (Off A8 g C) := by show Off _ _ _; rw [hA8, hC]; exact Hoff.out.sub.take N
      have HA8 : Hid (∃ a, A8 = some a) := by
        show ∃ a, A8 = some a
        cases e : A8 with
        | none => have := subA_nil (hA8 ▸ e : subA (some ⟨b, o, none⟩) c 8 = none); cases this
        | some a => exact ⟨a, rfl⟩
      have hw8N : IntKind.i64.wrap (8 + (N : Int)) = 8 + (N : Int) := by rw [IntKind.wrap_i64]; omega
      have hg1 : w1.heap.size ≠ g := by have := HT1.out.lt; omega
      have hBw : B ≤ w1.heap.size := Nat.le_trans hB hb1.size
      have hbl1 : b < w1.heap.size := by omega
      have k4 := (hb1.cell (p := ⟨b, o + 4, none⟩) (by show b < _; omega)).trans q4
      have k5 := (hb1.cell (p := ⟨b, o + 4 + 1, none⟩) (by show b < _; omega)).trans q5
      have k6 := (hb1.cell (p := ⟨b, o + 4 + 2, none⟩) (by show b < _; omega)).trans q6
      have k7 := (hb1.cell (p := ⟨b, o + 4 + 3, none⟩) (by show b < _; omega)).trans q7
      clear hbig hC hCl hA8 q0 q1 q2 q3 q4 q5 q6 q7 hb1 Htk1
      go_upto_region 7 with fail
      refine wp_region_noPanic ?_
      refine wp_region_held_drew (S := fun W => W.cell? ⟨b, o + 4, none⟩ = some (.int .u8 x4) ∧ W.cell? ⟨b, o + 4 + 1, none⟩ = some (.int .u8 x5) ∧ W.cell? ⟨b, o + 4 + 2, none⟩ = some (.int .u8 x6) ∧ W.cell? ⟨b, o + 4 + 3, none⟩ = some (.int .u8 x7)) (by kernel_rfl) ?_ (fun hHeld => ?_)
      · exact ⟨k4, k5, k6, k7⟩
      try simp only [heldPut, List.set]
      refine heldTake (i := 0) (v := ?_) rfl (by kernel_rfl) (by kernel_rfl) (by kernel_rfl) (fun _ _ _ h => h) (Or.inl ⟨by rfl, ?_⟩) (by assumption) ?_
      rotate_left
      · (intro W hSw; (try dsimp only at hSw); obtain ⟨k4, k5, k6, k7⟩ := hSw; go_simp; try with_reducible rfl)
      try simp only [heldPut, List.set]
      refine heldTake (i := 1) (v := ?_) rfl (by kernel_rfl) (by kernel_rfl) (by kernel_rfl) (fun _ _ _ h => h) (Or.inl ⟨by rfl, ?_⟩) (by assumption) ?_
      rotate_left
      · (intro W hSw; (try dsimp only at hSw); obtain ⟨k4, k5, k6, k7⟩ := hSw; go_simp; try with_reducible rfl)
      try simp only [heldPut, List.set]
      refine heldTake (i := 2) (v := ?_) rfl (by kernel_rfl) (by kernel_rfl) (by kernel_rfl) (fun _ _ _ h => h) (Or.inl ⟨by rfl, ?_⟩) (by assumption) ?_
      rotate_left
      · (intro W hSw; (try dsimp only at hSw); obtain ⟨k4, k5, k6, k7⟩ := hSw; go_simp; try with_reducible rfl)
      try simp only [heldPut, List.set]
      refine heldTake (i := 3) (v := ?_) rfl (by kernel_rfl) (by kernel_rfl) (by kernel_rfl) (fun _ _ _ h => h) (Or.inl ⟨by rfl, ?_⟩) (by assumption) ?_
      rotate_left
      · (intro W hSw; (try dsimp only at hSw); obtain ⟨k4, k5, k6, k7⟩ := hSw; go_simp; try with_reducible rfl)
      try simp only [heldPut, List.set]
      refine heldTake (i := 6) (v := ?_) rfl (by kernel_rfl) (by kernel_rfl) (by kernel_rfl) (fun _ _ _ h => h) (Or.inl ⟨by rfl, ?_⟩) (by assumption) ?_
      rotate_left
      · (intro W hSw; (try dsimp only at hSw); obtain ⟨k4, k5, k6, k7⟩ := hSw; go_simp; try with_reducible rfl)
      try simp only [heldPut, List.set]
      refine heldTake (i := 7) (v := ?_) rfl (by kernel_rfl) (by kernel_rfl) (by kernel_rfl) (fun _ _ _ h => h) (Or.inl ⟨by rfl, ?_⟩) (by assumption) ?_
      rotate_left
      · (intro W hSw; (try dsimp only at hSw); obtain ⟨k4, k5, k6, k7⟩ := hSw; go_simp; try with_reducible rfl)
      try simp only [heldPut, List.set]
      refine heldTake (i := 8) (v := ?_) rfl (by kernel_rfl) (by kernel_rfl) (by kernel_rfl) (fun _ _ _ h => h) (Or.inl ⟨by rfl, ?_⟩) (by assumption) ?_
      rotate_left
      · (intro W hSw; (try dsimp only at hSw); obtain ⟨k4, k5, k6, k7⟩ := hSw; go_simp; try with_reducible rfl)
      try simp only [heldPut, List.set]
      refine heldTake (i := 9) (v := ?_) rfl (by kernel_rfl) (by kernel_rfl) (by kernel_rfl) (fun _ _ _ h => h) (Or.inl ⟨by rfl, ?_⟩) (by assumption) ?_
      rotate_left
      · (intro W hSw; (try dsimp only at hSw); obtain ⟨k4, k5, k6, k7⟩ := hSw; go_simp; try with_reducible rfl)
      try simp only [heldPut, List.set]
      refine heldOne (i := 4) rfl (by kernel_rfl) (fun K hK => ?_)
      go_simp
      have hbW : Below w1.heap.size w1 (w1.alloc (.cells #[.slice (some ⟨b, o, none⟩) 4 c, .slice A8 N (c - 8)] 37)).drew := ((Below.refl _ _).alloc (Nat.le_refl _) _).drew
      refine hK.out _ _ ?_ (fun hHeld => ?_)
      · exact ⟨(hbW.cell (p := ⟨b, o + 4, none⟩) hbl1).trans k4, (hbW.cell (p := ⟨b, o + 4 + 1, none⟩) hbl1).trans k5, (hbW.cell (p := ⟨b, o + 4 + 2, none⟩) hbl1).trans k6, (hbW.cell (p := ⟨b, o + 4 + 3, none⟩) hbl1).trans k7⟩
      clear hK K
      try simp only [heldPut, List.set]
      refine heldOne (i := 5) rfl (by kernel_rfl) (fun K hK => ?_)
      go_simp
      refine (tsum_two g d s t w1.heap.size hd (some ⟨b, o, none⟩) 4 c [x0, x1, x2, x3] A8 N (c - 8) C B _ (HT1.out.below hbW) rfl HCl.out (by decide) (by unfold maxLen; omega) (by omega) (by omega) ((Hr4.out.below (hb1w.mono hB)).below (hbW.mono hBw)) Hok4.out Hoff4.out ((Hr8.out.below (hb1w.mono hB)).below (hbW.mono hBw)) Hok8.out Hoff8.out hg1 (by rw [World.cell?_drew, World.cell?_alloc_at _ _ _ _ rfl]; rfl) (by rw [World.cell?_drew, World.cell?_alloc_at _ _ _ _ rfl]; rfl) (by simp)).mono ?_
      rintro e w2 ⟨rfl, ht2, hT2⟩
      have Ht2 := Lib.hid ((TurnsIn.of_below (P := fun _ => True) HT1.out.lt hbW).trans ht2)
      have HT2 := Lib.hid hT2
      have hk2 : ∀ i, w2.cell? ⟨b, i, none⟩ = w1.cell? ⟨b, i, none⟩ := fun i => World.cell?_of_block (w := w1) (w' := w2) (a := ⟨b, i, none⟩) (Ht2.out.grown.block b hbl1 (fun e => hbg (by injection e)))
      clear ht2 hT2
      go_wp2_with fail
      refine hK.out _ _ ?_ (fun hHeld => ?_)
      · exact ⟨(hk2 _).trans k4, (hk2 _).trans k5, (hk2 _).trans k6, (hk2 _).trans k7⟩
      clear hK K
      try simp only [heldPut, List.set]
      refine heldOne (i := 10) rfl (by kernel_rfl) (fun K hK => ?_)
      go_simp
      refine (Hta.out _).mono ?_
      rintro e w3 ⟨rfl, hb3⟩
      have HT3 := Lib.hid (HT2.out.below hb3)
      have Ht3 := Lib.hid (Ht2.out.trans (TurnsIn.of_below (P := fun _ => True) HT2.out.lt hb3))
      have hk3 : ∀ i, w3.cell? ⟨b, i, none⟩ = w1.cell? ⟨b, i, none⟩ := fun i => World.cell?_of_block (w := w1) (w' := w3) (a := ⟨b, i, none⟩) (Ht3.out.grown.block b hbl1 (fun e => hbg (by injection e)))
      clear hk2 hb3
      go_wp2_with fail
      refine hK.out _ _ ?_ (fun hHeld => ?_)
      · exact ⟨(hk3 _).trans k4, (hk3 _).trans k5, (hk3 _).trans k6, (hk3 _).trans k7⟩
      clear hK K
      try simp only [heldPut, List.set]
      refine heldTake (i := 11) (v := ?_) rfl (by kernel_rfl) (by kernel_rfl) (by kernel_rfl) (fun _ _ _ h => h) (Or.inl ⟨by rfl, ?_⟩) (by assumption) ?_
      rotate_left
      · (intro W hSw; (try dsimp only at hSw);  go_simp; try with_reducible rfl)
      try simp only [heldPut, List.set]
      refine wpAnyH_done (by kernel_rfl) ?_ _
      refine NoPanic.normal ?_
      clear hk3 k4 k5 k6 k7
      by_cases hsum : sumN ([x0, x1, x2, x3] ++ C) = M
      · have hyes : Hid (takeJ l = some C) := by show _ = _; rw [HTJ2.out, if_pos hsum]
        have hne : (((sumN (x0 :: x1 :: x2 :: x3 :: C) : Nat) : Int) != (M : Int)) = false := by rw [bne_eq_false_iff_eq]; exact congrArg Int.ofNat hsum
        have hr3 := ((Hr8.out.below (hb1w.mono hB)).turned Hoff8.out Ht3.out).more (show B ≤ w3.heap.size from Nat.le_trans hBw Ht3.out.grown.size)
        have Hr3 := Lib.hid hr3
        clear hr3 hsum
        go_wp2_with fail
        refine (bclone_any A8 N (c - 8) C _ w3.heap.size HCl.out (fun h => by obtain ⟨a, ha⟩ := HA8.out; rw [ha] at h; cases h) (by omega) Hr3.out (Nat.le_refl _)).mono ?_
        rintro e w5 ⟨v5, rfl, hown5, hb5⟩
        have Hown5 := Lib.hid hown5
        have HT5 := Lib.hid (HT3.out.below hb5)
        have Ht5 := Lib.hid (Ht1.out.trans (Ht3.out.trans (TurnsIn.of_below (P := fun _ => True) HT3.out.lt hb5)))
        clear hown5 hb5
        go_wp2
        go_ret3
        refine .inr ⟨C, v5, hyes.out, ?_, ?_, ?_, Ht5.out⟩
        · rw [← HCl.out, show (8 : Int) + (N : Int) = ((N + 8 : Nat) : Int) by omega]; rfl
        · rw [← HCl.out]
          exact ownB_mono Hown5.out (Nat.le_trans hb1w.size Ht3.out.grown.size)
        · rw [← HCl.out]; exact HT5.out
      · have hno : Hid (takeJ l = none) := by show _ = _; rw [HTJ2.out, if_neg hsum]
        have hne : (((sumN (x0 :: x1 :: x2 :: x3 :: C) : Nat) : Int) != (M : Int)) = true := by rw [bne_iff_ne]; exact fun e => hsum (Int.ofNat.inj e)
        clear hsum
        go_wp2
        go_ret3
        exact .inl ⟨hno.out, rfl, ⟨1, s + 1, t + 4 + N, Nat.le_refl _, Nat.le_refl _, by omega, HT3.out⟩, Ht1.out.trans Ht3.out⟩
end Go.Proofs.Ytgcfofnlgdfmoaa
