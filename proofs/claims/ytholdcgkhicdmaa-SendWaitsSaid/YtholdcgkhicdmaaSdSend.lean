/- Layer 10: send: a flight is counted as sent. -/
import Derived.Test.YtholdcgkhicdmaaSdAck
namespace Go.Proofs.Ytholdcgkhicdmaa
open Go.RowKit

def sndF (m now : Nat) (f : Fg) : Fg := { f with s := true, d := now + f.v, v := min (2 * f.v) m }
def sndX (X : Sd) (f : Fg) : Sd := { X with t := X.t + 1, a := if f.s then X.a + 1 else X.a }
section
variable {S : Nat → Prop} {s : Nat} {X : Sd} {L : List Fg}
theorem SdAt.drew {w : World} (h : SdAt w S s X L) : SdAt w.drew S s X L := h.below ((Below.refl _ _).drew)
set_option maxRecDepth 100000 in
set_option maxHeartbeats 1000000 in
theorem sdsend_any {g o c n k now : Nat} {f : Fg} (w : World) (h : SdAt w S s X L) (hv : w.cell? ⟨s, 4, none⟩ = some (.slice (some ⟨g, o, none⟩) n c)) (hn : n = L.length) (hk : L[k]? = some f) (ht : X.t + 1 < 18446744073709551616) (ha : X.a + 1 < 18446744073709551616) (hd : now + f.v < 18446744073709551616) (hw : 2 * f.v < 18446744073709551616) :
    Calls Try.prog 17 #[.pointer (some ⟨s, 0, none⟩), .pointer (some ⟨g, o + k * 6, none⟩), .int .u64 now] w fun e w' => e = .returned (.tuple #[]) ∧ SdAt w' S s (sndX X f) (L.set k (sndF X.m now f)) ∧ w'.cell? ⟨s, 4, none⟩ = some (.slice (some ⟨g, o, none⟩) n c) ∧ Only S w w' := by
  obtain ⟨v, h1, h2⟩ := h.row
  obtain ⟨-, g', o', e, hS, hgs, hfz, hr⟩ := h.get hv hk
  injection e with e
  have e0 : o = o' := congrArg Addr.off e
  have e9 : g = g' := congrArg Addr.block e
  clear e
  subst e0; subst e9
  have s2 : w.cell? ⟨s, 2, none⟩ = some (.int .u64 X.m) := cell_of_row _ _ 2 _ _ _ h1
  have s5 : w.cell? ⟨s, 5, none⟩ = some (.int .u64 X.t) := cell_of_row _ _ 5 _ _ _ h1
  have s6 : w.cell? ⟨s, 6, none⟩ = some (.int .u64 X.a) := cell_of_row _ _ 6 _ _ _ h1
  have z5 : w.frozen? ⟨s, 5, none⟩ = false := frozen_of_row _ _ 5 _ _ h1
  have z6 : w.frozen? ⟨s, 6, none⟩ = false := frozen_of_row _ _ 6 _ _ h1
  obtain ⟨p, hp⟩ : ∃ p, p = o + k * 6 := ⟨_, rfl⟩
  rw [← hp] at hr ⊢
  have q2 : w.cell? ⟨g, p + 2, none⟩ = some (.int .u64 f.d) := hr 2 _ rfl
  have q3 : w.cell? ⟨g, p + 3, none⟩ = some (.int .u64 f.v) := hr 3 _ rfl
  have q4 : w.cell? ⟨g, p + 4, none⟩ = some (.bool f.s) := hr 4 _ rfl
  have y2 := hfz (p + 2)
  have y3 := hfz (p + 3)
  have y4 := hfz (p + 4)
  have hsg : s ≠ g := Ne.symm hgs
  have w1 : IntKind.u64.wrap ((X.t : Int) + 1) = ((X.t + 1 : Nat) : Int) := by rw [IntKind.wrap_u64]; omega
  have w2 : IntKind.u64.wrap ((X.a : Int) + 1) = ((X.a + 1 : Nat) : Int) := by rw [IntKind.wrap_u64]; omega
  have w3 : IntKind.u64.wrap ((now : Int) + f.v) = ((now + f.v : Nat) : Int) := by rw [IntKind.wrap_u64]; omega
  have w4 : IntKind.u64.wrap (2 * (f.v : Int)) = ((2 * f.v : Nat) : Int) := by rw [IntKind.wrap_u64]; omega
  have HH := Lib.hid (⟨h, hv, hn, hp, hk, hS⟩ : _ ∧ _ ∧ _ ∧ _ ∧ _ ∧ _)
  clear h hv hn hk h1 h2 hr hfz hp
  have HF : Hid (∀ (b : Bool) (W : World), W = (((if b then ((w.setCell ⟨s, 5, none⟩ (.int .u64 ((X.t : Int) + 1))).setCell ⟨s, 6, none⟩ (.int .u64 ((X.a : Int) + 1))) else (w.setCell ⟨s, 5, none⟩ (.int .u64 ((X.t : Int) + 1)))).setCell ⟨g, p + 4, none⟩ (.bool true)).setCell ⟨g, p + 2, none⟩ (.int .u64 ((now : Int) + f.v))) → f.s = b →
      (SdAt (W.setCell ⟨g, p + 3, none⟩ (.int .u64 (min (2 * (f.v : Int)) (X.m : Int)))).drew S s (sndX X f) (L.set k (sndF X.m now f)) ∧ (W.setCell ⟨g, p + 3, none⟩ (.int .u64 (min (2 * (f.v : Int)) (X.m : Int)))).drew.cell? ⟨s, 4, none⟩ = some (.slice (some ⟨g, o, none⟩) n c) ∧ Only S w (W.setCell ⟨g, p + 3, none⟩ (.int .u64 (min (2 * (f.v : Int)) (X.m : Int)))).drew) ∧
      W.cell? ⟨g, p + 3, none⟩ = some (.int .u64 f.v) ∧ W.cell? ⟨s, 2, none⟩ = some (.int .u64 X.m) ∧ W.frozen? ⟨g, p + 3, none⟩ = false) := by
    intro b W hW hb
    obtain ⟨h, hv, hn, hp, hk, hS⟩ := HH.out
    have hl : (Value.slice (some ⟨g, o, none⟩) n c) = .slice (some ⟨g, o, none⟩) L.length c := by rw [hn]
    have em : (min (2 * (f.v : Int)) (X.m : Int)) = ((min (2 * f.v) X.m : Nat) : Int) := by omega
    have ed : ((now : Int) + f.v) = ((now + f.v : Nat) : Int) := by omega
    have a1 : SdAt (if b then ((w.setCell ⟨s, 5, none⟩ (.int .u64 ((X.t : Int) + 1))).setCell ⟨s, 6, none⟩ (.int .u64 ((X.a : Int) + 1))) else (w.setCell ⟨s, 5, none⟩ (.int .u64 ((X.t : Int) + 1)))) S s (sndX X f) L := by
      have b1 : SdAt (w.setCell ⟨s, 5, none⟩ (.int .u64 ((X.t : Int) + 1))) S s { X with t := X.t + 1 } L := h.set 5 _ (fun v => rfl)
      unfold sndX
      rw [hb]
      cases b with
      | false => exact b1
      | true => exact b1.set 6 _ (fun v => rfl)
    obtain ⟨V, hV⟩ : ∃ V, V = (if b then ((w.setCell ⟨s, 5, none⟩ (.int .u64 ((X.t : Int) + 1))).setCell ⟨s, 6, none⟩ (.int .u64 ((X.a : Int) + 1))) else (w.setCell ⟨s, 5, none⟩ (.int .u64 ((X.t : Int) + 1)))) := ⟨_, rfl⟩
    have hoV : Only (fun i => i = s) w V := by
      rw [hV]
      cases b with
      | false => exact Only.setCell _ _ _ rfl
      | true => exact (Only.setCell (T := fun i => i = s) _ _ _ rfl).trans (Only.setCell (T := fun i => i = s) _ _ _ rfl) (fun _ h => .inl h)
    have v4 : V.cell? ⟨s, 4, none⟩ = some (.slice (some ⟨g, o, none⟩) n c) := by
      rw [hV]
      cases b with
      | false => exact (World.cell?_setCell_other _ _ _ _ (by simp)).trans hv
      | true => exact (World.cell?_setCell_other _ _ _ _ (by simp)).trans ((World.cell?_setCell_other _ _ _ _ (by simp)).trans hv)
    have v2 : V.cell? ⟨s, 2, none⟩ = some (.int .u64 X.m) := by
      rw [hV]
      cases b with
      | false => exact (World.cell?_setCell_other _ _ _ _ (by simp)).trans s2
      | true => exact (World.cell?_setCell_other _ _ _ _ (by simp)).trans ((World.cell?_setCell_other _ _ _ _ (by simp)).trans s2)
    rw [← hV] at a1 hW
    rw [hl] at v4
    obtain ⟨p1, p2⟩ := a1.put (j := 4) (f' := { f with s := true }) (u := .bool true) v4 hk (by decide) rfl
    have hk1 : (L.set k { f with s := true })[k]? = some { f with s := true } := by rw [List.getElem?_set_self (List.getElem?_eq_some_iff.1 hk).1]
    obtain ⟨p3, p4⟩ := p1.put (j := 2) (f' := { f with s := true, d := now + f.v }) (u := .int .u64 ((now : Int) + f.v)) p2 hk1 (by decide) (by rw [ed]; rfl)
    rw [List.set_set] at p3 p4
    rw [← hp, ← hW] at p3 p4
    have hk2 : (L.set k { f with s := true, d := now + f.v })[k]? = some { f with s := true, d := now + f.v } := by rw [List.getElem?_set_self (List.getElem?_eq_some_iff.1 hk).1]
    obtain ⟨p5, p6⟩ := p3.put (j := 3) (f' := sndF X.m now f) (u := .int .u64 (min (2 * (f.v : Int)) (X.m : Int))) p4 hk2 (by decide) (by rw [em]; rfl)
    rw [List.set_set, List.length_set, ← hn, ← hp] at p6
    rw [List.set_set, ← hp] at p5
    have hoW : Only (fun i => i = g) V W := by
      rw [hW]
      exact (Only.setCell (T := fun i => i = g) _ _ _ rfl).trans (Only.setCell (T := fun i => i = g) _ _ _ rfl) (fun _ h => .inl h)
    have hsl : s < w.heap.size := h.lt s h.sS
    have hgl : g < w.heap.size := h.lt g hS
    have hsV := hoV.size
    refine ⟨⟨p5.drew, p6, ?_⟩, ?_, ?_, ?_⟩
    · have hq : Only S w (W.setCell ⟨g, p + 3, none⟩ (.int .u64 (min (2 * (f.v : Int)) (X.m : Int)))) := (hoV.mono (fun i hi => by rw [hi]; exact h.sS)).trans (hoW.trans (Only.setCell (T := fun i => i = g) _ _ _ rfl) (fun _ h => .inl h)) (fun i hi => .inl (by have hi : i = g := hi; rw [hi]; exact hS))
      exact ⟨hq.os, hq.tape, hq.output, hq.size, hq.block⟩
    · rw [hW]
      exact (World.cell?_setCell_other _ _ _ _ (by simp)).trans ((World.cell?_setCell_other _ _ _ _ (by simp)).trans ((hoV.cell (p := ⟨g, p + 3, none⟩) hgl hgs).trans q3))
    · exact (hoW.cell (p := ⟨s, 2, none⟩) (by show s < _; omega) hsg).trans v2
    · have e : W.frozen? ⟨g, p + 3, none⟩ = V.frozen? ⟨g, p + 3, none⟩ := by rw [hW]; simp
      rw [e]
      exact (hoV.frozen (p := ⟨g, p + 3, none⟩) hgl hgs).trans y3
  clear ht ha hd hw
  go_enter Try.func17, Try.ntmps17
  cases hs : f.s with
  | false =>
    rw [hs] at q4
    have HS := Lib.hid hs
    clear hs
    go_upto_region 5 with fail
    obtain ⟨W, hW⟩ : ∃ W, W = (((w.setCell ⟨s, 5, none⟩ (.int .u64 ((X.t : Int) + 1)))).setCell ⟨g, p + 4, none⟩ (.bool true)).setCell ⟨g, p + 2, none⟩ (.int .u64 ((now : Int) + f.v)) := ⟨_, rfl⟩
    rw [← hW]
    obtain ⟨hF, r3, r2, r1⟩ := HF.out false W hW HS.out
    clear hW
    refine wp_region_noPanic ?_
    refine keepBegin (S := fun V => V = W.drew) 13 (by kernel_rfl) ?_ (fun hHeld => ?_)
    · rfl
    try simp only [keepPut, List.set, Nat.zero_add]
    refine keepTake (i := 0) (v := ?_) [0] rfl (by kernel_rfl) (by kernel_rfl) (by kernel_rfl) (by kernel_rfl) (by kernel_rfl) (by kernel_rfl) (fun _ _ _ h => h) (Or.inl ⟨by rfl, ?_⟩) (by assumption) ?_
    rotate_left
    · (intro V hSw; (try dsimp only at hSw); subst hSw; go_simp; try with_reducible rfl)
    try simp only [keepPut, List.set, Nat.zero_add]
    refine keepTake (i := 1) (v := ?_) [1] rfl (by kernel_rfl) (by kernel_rfl) (by kernel_rfl) (by kernel_rfl) (by kernel_rfl) (by kernel_rfl) (fun _ _ _ h => h) (Or.inl ⟨by rfl, ?_⟩) (by assumption) ?_
    rotate_left
    · (intro V hSw; (try dsimp only at hSw); subst hSw; go_simp; try with_reducible rfl)
    try simp only [keepPut, List.set, Nat.zero_add]
    refine keepTake (i := 2) (v := ?_) [2] rfl (by kernel_rfl) (by kernel_rfl) (by kernel_rfl) (by kernel_rfl) (by kernel_rfl) (by kernel_rfl) (fun _ _ _ h => h) (Or.inl ⟨by rfl, ?_⟩) (by assumption) ?_
    rotate_left
    · (intro V hSw; (try dsimp only at hSw); subst hSw; go_simp; try with_reducible rfl)
    try simp only [keepPut, List.set, Nat.zero_add]
    refine keepTake (i := 3) (v := ?_) [3] rfl (by kernel_rfl) (by kernel_rfl) (by kernel_rfl) (by kernel_rfl) (by kernel_rfl) (by kernel_rfl) (fun _ _ _ h => h) (Or.inl ⟨by rfl, ?_⟩) (by assumption) ?_
    rotate_left
    · (intro V hSw; (try dsimp only at hSw); subst hSw; go_simp; try with_reducible rfl)
    try simp only [keepPut, List.set, Nat.zero_add]
    refine keepTake (i := 4) (v := ?_) [4] rfl (by kernel_rfl) (by kernel_rfl) (by kernel_rfl) (by kernel_rfl) (by kernel_rfl) (by kernel_rfl) (fun _ _ _ h => h) (Or.inl ⟨by rfl, ?_⟩) (by assumption) ?_
    rotate_left
    · (intro V hSw; (try dsimp only at hSw); subst hSw; go_simp; try with_reducible rfl)
    try simp only [keepPut, List.set, Nat.zero_add]
    refine keepTake (i := 5) (v := ?_) [5] rfl (by kernel_rfl) (by kernel_rfl) (by kernel_rfl) (by kernel_rfl) (by kernel_rfl) (by kernel_rfl) (fun _ _ _ h => h) (Or.inl ⟨by rfl, ?_⟩) (by assumption) ?_
    rotate_left
    · (intro V hSw; (try dsimp only at hSw); subst hSw; go_simp; try with_reducible rfl)
    try simp only [keepPut, List.set, Nat.zero_add]
    refine keepTake (i := 6) (v := ?_) [6] rfl (by kernel_rfl) (by kernel_rfl) (by kernel_rfl) (by kernel_rfl) (by kernel_rfl) (by kernel_rfl) (fun _ _ _ h => h) (Or.inl ⟨by rfl, ?_⟩) (by assumption) ?_
    rotate_left
    · (intro V hSw; (try dsimp only at hSw); subst hSw; go_simp; try with_reducible rfl)
    try simp only [keepPut, List.set, Nat.zero_add]
    refine keepTake (i := 7) (v := ?_) [7] rfl (by kernel_rfl) (by kernel_rfl) (by kernel_rfl) (by kernel_rfl) (by kernel_rfl) (by kernel_rfl) (fun _ _ _ h => h) (Or.inl ⟨by rfl, ?_⟩) (by assumption) ?_
    rotate_left
    · (intro V hSw; (try dsimp only at hSw); subst hSw; go_simp; try with_reducible rfl)
    try simp only [keepPut, List.set, Nat.zero_add]
    refine keepTake (i := 8) (v := ?_) [8] rfl (by kernel_rfl) (by kernel_rfl) (by kernel_rfl) (by kernel_rfl) (by kernel_rfl) (by kernel_rfl) (fun _ _ _ h => h) (Or.inl ⟨by rfl, ?_⟩) (by assumption) ?_
    rotate_left
    · (intro V hSw; (try dsimp only at hSw); subst hSw; go_simp; try with_reducible rfl)
    try simp only [keepPut, List.set, Nat.zero_add]
    refine keepTake (i := 9) (v := ?_) [9] rfl (by kernel_rfl) (by kernel_rfl) (by kernel_rfl) (by kernel_rfl) (by kernel_rfl) (by kernel_rfl) (fun _ _ _ h => h) (Or.inl ⟨by rfl, ?_⟩) (by assumption) ?_
    rotate_left
    · (intro V hSw; (try dsimp only at hSw); subst hSw; go_simp; try with_reducible rfl)
    try simp only [keepPut, List.set, Nat.zero_add]
    refine keepTake (i := 10) (v := ?_) [10] rfl (by kernel_rfl) (by kernel_rfl) (by kernel_rfl) (by kernel_rfl) (by kernel_rfl) (by kernel_rfl) (fun _ _ _ h => h) (Or.inl ⟨by rfl, ?_⟩) (by assumption) ?_
    rotate_left
    · (intro V hSw; (try dsimp only at hSw); subst hSw; go_simp; try with_reducible rfl)
    try simp only [keepPut, List.set, Nat.zero_add]
    refine keepTake (i := 11) (v := ?_) [12, 11] rfl (by kernel_rfl) (by kernel_rfl) (by kernel_rfl) (by kernel_rfl) (by kernel_rfl) (by kernel_rfl) (fun _ _ _ h => h) (Or.inl ⟨by rfl, ?_⟩) (by assumption) ?_
    rotate_left
    · (intro W hSw; (try dsimp only at hSw); go_simp; try with_reducible rfl)
    try simp only [keepPut, List.set, Nat.zero_add]
    refine keepTake (i := 12) (v := ?_) [12] rfl (by kernel_rfl) (by kernel_rfl) (by kernel_rfl) (by kernel_rfl) (by kernel_rfl) (by kernel_rfl) (fun _ _ _ h => h) (Or.inl ⟨by rfl, ?_⟩) (by assumption) ?_
    rotate_left
    · (intro W hSw; (try dsimp only at hSw); go_simp; try with_reducible rfl)
    try simp only [keepPut, List.set, Nat.zero_add]
    refine keepLast rfl (by kernel_rfl) (fun K hK => ?_)
    go_simp
    refine hK.out _ _ ?_
    clear hK K
    try simp only [keepPut, List.set, Nat.zero_add]
    refine keepDone (by kernel_rfl) ?_ _
    refine NoPanic.normal ?_
    go_end0
    exact ⟨rfl, hF⟩
  | true =>
    rw [hs] at q4
    have HS := Lib.hid hs
    clear hs
    go_upto_region 5 with fail
    obtain ⟨W, hW⟩ : ∃ W, W = (((w.setCell ⟨s, 5, none⟩ (.int .u64 ((X.t : Int) + 1))).setCell ⟨s, 6, none⟩ (.int .u64 ((X.a : Int) + 1))).setCell ⟨g, p + 4, none⟩ (.bool true)).setCell ⟨g, p + 2, none⟩ (.int .u64 ((now : Int) + f.v)) := ⟨_, rfl⟩
    rw [← hW]
    obtain ⟨hF, r3, r2, r1⟩ := HF.out true W hW HS.out
    clear hW
    refine wp_region_noPanic ?_
    refine keepBegin (S := fun V => V = W.drew) 13 (by kernel_rfl) ?_ (fun hHeld => ?_)
    · rfl
    try simp only [keepPut, List.set, Nat.zero_add]
    refine keepTake (i := 0) (v := ?_) [0] rfl (by kernel_rfl) (by kernel_rfl) (by kernel_rfl) (by kernel_rfl) (by kernel_rfl) (by kernel_rfl) (fun _ _ _ h => h) (Or.inl ⟨by rfl, ?_⟩) (by assumption) ?_
    rotate_left
    · (intro V hSw; (try dsimp only at hSw); subst hSw; go_simp; try with_reducible rfl)
    try simp only [keepPut, List.set, Nat.zero_add]
    refine keepTake (i := 1) (v := ?_) [1] rfl (by kernel_rfl) (by kernel_rfl) (by kernel_rfl) (by kernel_rfl) (by kernel_rfl) (by kernel_rfl) (fun _ _ _ h => h) (Or.inl ⟨by rfl, ?_⟩) (by assumption) ?_
    rotate_left
    · (intro V hSw; (try dsimp only at hSw); subst hSw; go_simp; try with_reducible rfl)
    try simp only [keepPut, List.set, Nat.zero_add]
    refine keepTake (i := 2) (v := ?_) [2] rfl (by kernel_rfl) (by kernel_rfl) (by kernel_rfl) (by kernel_rfl) (by kernel_rfl) (by kernel_rfl) (fun _ _ _ h => h) (Or.inl ⟨by rfl, ?_⟩) (by assumption) ?_
    rotate_left
    · (intro V hSw; (try dsimp only at hSw); subst hSw; go_simp; try with_reducible rfl)
    try simp only [keepPut, List.set, Nat.zero_add]
    refine keepTake (i := 3) (v := ?_) [3] rfl (by kernel_rfl) (by kernel_rfl) (by kernel_rfl) (by kernel_rfl) (by kernel_rfl) (by kernel_rfl) (fun _ _ _ h => h) (Or.inl ⟨by rfl, ?_⟩) (by assumption) ?_
    rotate_left
    · (intro V hSw; (try dsimp only at hSw); subst hSw; go_simp; try with_reducible rfl)
    try simp only [keepPut, List.set, Nat.zero_add]
    refine keepTake (i := 4) (v := ?_) [4] rfl (by kernel_rfl) (by kernel_rfl) (by kernel_rfl) (by kernel_rfl) (by kernel_rfl) (by kernel_rfl) (fun _ _ _ h => h) (Or.inl ⟨by rfl, ?_⟩) (by assumption) ?_
    rotate_left
    · (intro V hSw; (try dsimp only at hSw); subst hSw; go_simp; try with_reducible rfl)
    try simp only [keepPut, List.set, Nat.zero_add]
    refine keepTake (i := 5) (v := ?_) [5] rfl (by kernel_rfl) (by kernel_rfl) (by kernel_rfl) (by kernel_rfl) (by kernel_rfl) (by kernel_rfl) (fun _ _ _ h => h) (Or.inl ⟨by rfl, ?_⟩) (by assumption) ?_
    rotate_left
    · (intro V hSw; (try dsimp only at hSw); subst hSw; go_simp; try with_reducible rfl)
    try simp only [keepPut, List.set, Nat.zero_add]
    refine keepTake (i := 6) (v := ?_) [6] rfl (by kernel_rfl) (by kernel_rfl) (by kernel_rfl) (by kernel_rfl) (by kernel_rfl) (by kernel_rfl) (fun _ _ _ h => h) (Or.inl ⟨by rfl, ?_⟩) (by assumption) ?_
    rotate_left
    · (intro V hSw; (try dsimp only at hSw); subst hSw; go_simp; try with_reducible rfl)
    try simp only [keepPut, List.set, Nat.zero_add]
    refine keepTake (i := 7) (v := ?_) [7] rfl (by kernel_rfl) (by kernel_rfl) (by kernel_rfl) (by kernel_rfl) (by kernel_rfl) (by kernel_rfl) (fun _ _ _ h => h) (Or.inl ⟨by rfl, ?_⟩) (by assumption) ?_
    rotate_left
    · (intro V hSw; (try dsimp only at hSw); subst hSw; go_simp; try with_reducible rfl)
    try simp only [keepPut, List.set, Nat.zero_add]
    refine keepTake (i := 8) (v := ?_) [8] rfl (by kernel_rfl) (by kernel_rfl) (by kernel_rfl) (by kernel_rfl) (by kernel_rfl) (by kernel_rfl) (fun _ _ _ h => h) (Or.inl ⟨by rfl, ?_⟩) (by assumption) ?_
    rotate_left
    · (intro V hSw; (try dsimp only at hSw); subst hSw; go_simp; try with_reducible rfl)
    try simp only [keepPut, List.set, Nat.zero_add]
    refine keepTake (i := 9) (v := ?_) [9] rfl (by kernel_rfl) (by kernel_rfl) (by kernel_rfl) (by kernel_rfl) (by kernel_rfl) (by kernel_rfl) (fun _ _ _ h => h) (Or.inl ⟨by rfl, ?_⟩) (by assumption) ?_
    rotate_left
    · (intro V hSw; (try dsimp only at hSw); subst hSw; go_simp; try with_reducible rfl)
    try simp only [keepPut, List.set, Nat.zero_add]
    refine keepTake (i := 10) (v := ?_) [10] rfl (by kernel_rfl) (by kernel_rfl) (by kernel_rfl) (by kernel_rfl) (by kernel_rfl) (by kernel_rfl) (fun _ _ _ h => h) (Or.inl ⟨by rfl, ?_⟩) (by assumption) ?_
    rotate_left
    · (intro V hSw; (try dsimp only at hSw); subst hSw; go_simp; try with_reducible rfl)
    try simp only [keepPut, List.set, Nat.zero_add]
    refine keepTake (i := 11) (v := ?_) [12, 11] rfl (by kernel_rfl) (by kernel_rfl) (by kernel_rfl) (by kernel_rfl) (by kernel_rfl) (by kernel_rfl) (fun _ _ _ h => h) (Or.inl ⟨by rfl, ?_⟩) (by assumption) ?_
    rotate_left
    · (intro W hSw; (try dsimp only at hSw); go_simp; try with_reducible rfl)
    try simp only [keepPut, List.set, Nat.zero_add]
    refine keepTake (i := 12) (v := ?_) [12] rfl (by kernel_rfl) (by kernel_rfl) (by kernel_rfl) (by kernel_rfl) (by kernel_rfl) (by kernel_rfl) (fun _ _ _ h => h) (Or.inl ⟨by rfl, ?_⟩) (by assumption) ?_
    rotate_left
    · (intro W hSw; (try dsimp only at hSw); go_simp; try with_reducible rfl)
    try simp only [keepPut, List.set, Nat.zero_add]
    refine keepLast rfl (by kernel_rfl) (fun K hK => ?_)
    go_simp
    refine hK.out _ _ ?_
    clear hK K
    try simp only [keepPut, List.set, Nat.zero_add]
    refine keepDone (by kernel_rfl) ?_ _
    refine NoPanic.normal ?_
    go_end0
    exact ⟨rfl, hF⟩
end
end Go.Proofs.Ytholdcgkhicdmaa
