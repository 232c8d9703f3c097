/- Layer 2: bytes.Clone, slices.Grow of nil, slices.Concat of two parts. -/
import Derived.Test.YtbadohcphadjfabCrcAdd
import Derived.Test.YtbadohcphadjfabApp
import Derived.Lib.AppendZeros
import Derived.WalkSpells
import Derived.Lib.SliceRun
import Derived.LoopN
namespace Go.Proofs.Ytbadohcphadjfab
open Go.RowKit

theorem Try.infoB : (Try.prog.info? 5).map (fun i => (i.zero, i.size, i.bytes)) = some (some (.int .u8 0), 1, 1) := by kernel_rfl
theorem src_of_rdB {w : World} {B : Nat} {A : Option Addr} {l : List Nat} {n : Nat} (h : RdB w B A l) (hn : n = l.length) : Src w A n 1 (cellsB l) := by
  subst hn
  refine ⟨by rw [cellsB_length, Nat.mul_one], fun h0 => ?_⟩
  obtain ⟨b, o, e, _, hc⟩ := h h0
  refine ⟨_, e, fun j u hj => ?_⟩
  have hjl : j < l.length := by
    have := (List.getElem?_eq_some_iff.1 hj).1
    rwa [cellsB_length] at this
  have hp : l[j]? = some l[j] := List.getElem?_eq_getElem hjl
  rw [Addr.add_lit]
  rw [hc _ _ hp, ← hj, cellsB_get hp]
theorem ownB_slice {W : World} {base : Nat} {e : TypeId} {size n : Nat} {v : Value} {xs : List Value} (h : W.ownsRow base e size v n xs) : ∃ A c, v = .slice A n c := by
  rcases h.2 with ⟨rfl, rfl⟩ | ⟨g, cap, cur, rfl, _⟩
  · exact ⟨none, 0, rfl⟩
  · exact ⟨_, _, rfl⟩
theorem ownB_below {w w' : World} {base : Nat} {e : TypeId} {size n : Nat} {v : Value} {xs : List Value} (h : w.ownsRow base e size v n xs) (hb : Below w.heap.size w w') : w'.ownsRow base e size v n xs :=
  h.kept (row := none) ⟨hb.os, hb.tape, hb.output, hb.size, fun k hk _ => hb.block k hk⟩ (by
    rcases h.2 with ⟨rfl, _⟩ | ⟨g, cap, cur, rfl, _⟩
    · exact Or.inl rfl
    · exact Or.inr (by simp [Value.ownBlock]))
theorem ownB_mono {W : World} {base base' : Nat} {e : TypeId} {size n : Nat} {v : Value} {xs : List Value} (h : W.ownsRow base e size v n xs) (hb : base' ≤ base) : W.ownsRow base' e size v n xs := by
  refine ⟨h.1, ?_⟩
  rcases h.2 with h0 | ⟨g, cap, cur, rfl, hg, rest⟩
  · exact .inl h0
  · exact .inr ⟨g, cap, cur, rfl, by omega, rest⟩

set_option maxRecDepth 100000 in
set_option maxHeartbeats 400000 in
theorem bclone_any (A : Option Addr) (n c : Nat) (l : List Nat) (w : World) (B : Nat) (hn : n = l.length) (hA : A = none → n = 0) (hm : n ≤ 140737488351232) (hr : RdB w B A l) (hB : B ≤ w.heap.size) :
    Calls Try.prog 19 #[.slice A n c] w fun e w' => ∃ v, e = .returned v ∧ w'.ownsRow w.heap.size 5 1 v n (cellsB l) ∧ Below w.heap.size w w' := by
  obtain ⟨i0, hi, hz0, hz1, hz2⟩ := info_parts Try.infoB
  have q22 : ∀ (w : World) (a : Option Addr) (n c n' c' : Nat), (binOp .eql 22 (.slice a n c) (.slice none n' c')).run Try.prog w = .ok (.bool a.isNone) w := fun w a n c n' c' => Lib.run_eql_slice_nil w _ _ a n c n' c' Try.underlying22
  cases A with
  | none =>
    obtain rfl := hA rfl
    obtain rfl : l = [] := List.eq_nil_of_length_eq_zero hn.symm
    clear hm hn hA hr
    go_enter Try.func19, Try.ntmps19
    go_wp2
    go_ret
    exact ⟨_, rfl, World.ownsRow_nil _ _ _ _, Below.refl _ _⟩
  | some a =>
    have hs1 : Src (w.alloc (.cells #[] 5)) (some a) n 1 (cellsB l) := src_of_rdB (hr.below (((Below.refl _ w).alloc (Nat.le_refl _) _).mono hB)) hn
    have HS := Lib.hid hs1
    have Hm := Lib.hid hm
    clear hs1 hr hA hn hm
    go_enter Try.func19, Try.ntmps19
    go_wp2_with (at_builtin; refine wpList_append_src (base := w.heap.size) rfl _ _ rfl Try.underlying22 hi hz0 hz1 hz2 rfl (by decide) rfl (World.ownsRow_made _ #[] 0 (Nat.le_refl _) (Nat.zero_le _) rfl) rfl HS.out (cellsB_one _) (by have := Hm.out; unfold maxLen; omega) (by have := Hm.out; omega) (by simp) ?_; intro v1 w1 hr1 hg1 hb1; replace hb1 : Below w.heap.size w w1 := ((Below.refl _ w).alloc (Nat.le_refl _) _).grown hg1 (by simp) (fun q hq => by cases hq; exact Nat.le_refl _); replace hr1 := Lib.hid hr1; clear hg1)
    go_ret
    have h := hr1.out
    rw [Nat.zero_add, List.nil_append] at h
    exact ⟨_, rfl, h, hb1⟩

set_option maxRecDepth 100000 in
set_option maxHeartbeats 400000 in
theorem grow_nil (n : Nat) (w : World) (hm : n ≤ 140737488351232) :
    Calls Try.prog 24 #[.slice none 0 0, .int .i64 n] w fun e w' => ∃ v, e = .returned v ∧ w'.ownsRow w.heap.size 5 1 v 0 [] ∧ Below w.heap.size w w' := by
  obtain ⟨i0, hi, hz0, hz1, hz2⟩ := info_parts Try.infoB
  rcases Nat.eq_zero_or_pos n with rfl | hpos
  · clear hm
    go_enter Try.func24, Try.ntmps24
    go_wp2
    go_ret
    exact ⟨_, rfl, World.ownsRow_nil _ _ _ _, Below.refl _ _⟩
  · have hrz : ∀ ty, (Builtin.append_ #[22, 3] ty #[.slice none 0 0, .int .i64 (n : Int)]).run Try.prog w = _ := fun ty => Lib.run_append_nil_zeros w 22 3 ty 5 i0 (.int .u8 0) .i64 .i64 Try.underlying22 Try.underlying3 hi hz0 n hpos (by omega) (by omega) (by rw [hz2]; omega)
    have hge := grownCap_ge w n 0 5
    have hmx := grownCap_le_maxLen w n 0 5 (by unfold maxLen; omega)
    have Hsz : Hid ((Builtin.zeroCells (Value.int .u8 0).cells n ++ Builtin.zeroCells (Value.int .u8 0).cells (grownCap w n 0 5 - n)).size = grownCap w n 0 5 * 1) := by
      show _ = _
      rw [Array.size_append, size_zeroCells, size_zeroCells]
      simp [Value.cells]
      omega
    generalize grownCap w n 0 5 = G at *
    generalize (Builtin.zeroCells (Value.int .u8 0).cells n ++ Builtin.zeroCells (Value.int .u8 0).cells (G - n)) = C at *
    have hmx2 := hmx
    unfold maxLen at hmx
    go_enter Try.func24, Try.ntmps24
    go_wp2_with (at_builtin; refine Lib.wpList_append_run _ rfl _ _ _ _ rfl _ _ rfl rfl _ _ (hrz _) ?_)
    go_ret
    exact ⟨_, rfl, World.ownsRow_made w.drew C G (Nat.le_refl _) hmx2 Hsz.out, ((Below.refl _ w).drew).alloc (Nat.le_refl _) _⟩

set_option maxRecDepth 100000 in
set_option maxHeartbeats 1000000 in
theorem concat_any (q : Nat) (A : Option Addr) (n c : Nat) (l : List Nat) (A' : Option Addr) (m d : Nat) (l' : List Nat) (B : Nat) (w : World) (hn : n = l.length) (hm : m = l'.length) (hnx : n + m ≤ 140737488351232) (hr : RdB w B A l) (hs : RdB w B A' l') (hB : B ≤ w.heap.size) (hq : q < w.heap.size)
    (hc0 : w.cell? ⟨q, 0, none⟩ = some (.slice A n c)) (hc1 : w.cell? ⟨q, 1, none⟩ = some (.slice A' m d)) :
    Calls Try.prog 18 #[.slice (some ⟨q, 0, none⟩) 2 2] w fun e w' => ∃ v, e = .returned v ∧ w'.ownsRow w.heap.size 5 1 v (n + m) (cellsB (l ++ l')) ∧ Below w.heap.size w w' := by
  obtain ⟨i0, hi, hz0, hz1, hz2⟩ := info_parts Try.infoB
  have Hg := Lib.hid (grow_nil (n + m) w hnx)
  have e1 : ¬ ((n : Int) < 0) := by omega
  have e2 : ¬ ((n : Int) + (m : Int) < 0) := by omega
  have Hn := Lib.hid hn
  have Hm := Lib.hid hm
  have Hr := Lib.hid (hr.more hB)
  have Hs := Lib.hid (hs.more hB)
  clear hn hm hr hs
  go_enter Try.func18, Try.ntmps18
  go_wp2
  refine wp_loop_rounds 3 ?_
  rw [rounds_succ]
  go_wp2
  rw [rounds_succ]
  go_wp2
  rw [rounds_succ]
  go_wp2_with fail
  refine Hg.out.mono ?_
  rintro e w1 ⟨v1, rfl, hown1, hb1⟩
  obtain ⟨A1, c1, rfl⟩ := ownB_slice hown1
  have hge1 := hb1.size
  have Hown1 := Lib.hid hown1
  have d0 := (hb1.cell (p := ⟨q, 0, none⟩) hq).trans hc0
  have d1 := (hb1.cell (p := ⟨q, 1, none⟩) hq).trans hc1
  have Hr1 := Lib.hid (src_of_rdB (Hr.out.below hb1) Hn.out)
  clear hown1 hc0 hc1
  go_wp2
  refine wp_loop_rounds 3 ?_
  rw [rounds_succ]
  go_wp2_with (at_builtin; refine wpList_append_src (base := w.heap.size) rfl (.tmp 31) (.tmp 32) rfl Try.underlying22 hi hz0 hz1 hz2 rfl (by decide) rfl Hown1.out rfl Hr1.out (cellsB_one _) (by unfold maxLen; omega) (by omega) hge1 ?_; intro v2 w2 hr2 hg2 _; obtain ⟨A2, c2, rfl⟩ := ownB_slice hr2; replace hg2 : Below w.heap.size w w2 := hb1.grown hg2 hge1 (fun q hq => (Hown1.out.lt q hq).1); rw [List.nil_append, Nat.zero_add] at hr2; rw [Nat.zero_add]; replace hr2 := Lib.hid hr2)
  have hge2 := hg2.size
  have f1 := (hg2.cell (p := ⟨q, 1, none⟩) hq).trans (((hb1.cell (p := ⟨q, 1, none⟩) hq).symm).trans d1)
  have Hs2 := Lib.hid (src_of_rdB (Hs.out.below hg2) Hm.out)
  clear d0 d1 Hr1 Hown1
  rw [rounds_succ]
  go_wp2_with (at_builtin; refine wpList_append_src (base := w.heap.size) rfl (.tmp 31) (.tmp 32) rfl Try.underlying22 hi hz0 hz1 hz2 rfl (by decide) rfl hr2.out rfl Hs2.out (cellsB_one _) (by unfold maxLen; omega) (by omega) hge2 ?_; intro v3 w3 hr3 hg3 _; obtain ⟨A3, c3, rfl⟩ := ownB_slice hr3; replace hg3 : Below w.heap.size w w3 := hg2.grown hg3 hge2 (fun q hq => (hr2.out.lt q hq).1); replace hr3 := Lib.hid hr3)
  rw [rounds_succ]
  go_wp2
  go_ret
  rw [cellsB_append]
  exact ⟨_, rfl, hr3.out, hg3⟩
end Go.Proofs.Ytbadohcphadjfab
