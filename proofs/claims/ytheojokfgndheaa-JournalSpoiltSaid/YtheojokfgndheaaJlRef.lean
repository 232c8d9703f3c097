/- Layer 7: the document's own Lay. -/
import Derived.Test.YtheojokfgndheaaJlPlain
import Derived.Test.YtheojokfgndheaaJlCutB
import Derived.Test.YtheojokfgndheaaDkRead
namespace Go.Proofs.Ytheojokfgndheaa
open Go.RowKit

set_option maxRecDepth 100000 in
set_option maxHeartbeats 1000000 in
theorem rlay_any (A : Option Addr) (n c : Nat) (l : List Nat) (B : Nat) (w : World) (hn : n = l.length) (hm : n ≤ 1000000) (hr : RdB w B A l) (hB : B ≤ w.heap.size) (hok : OkB l) :
    Calls Try.prog 30 #[.slice A n c] w fun e w' => ∃ v, e = .returned v ∧ w'.ownsRow w.heap.size 5 1 v (n + 8) (cellsB (laidR l)) ∧ Below w.heap.size w w' := by
  obtain ⟨i0, hi0, hz0, hz1, hz2⟩ := info_parts Try.infoB
  have Hn := Lib.hid hn
  have Hok := Lib.hid hok
  have HSl : Hid (∀ W, Below w.heap.size w W → Src W A n 1 (cellsB l)) := fun W hW => src_of_rdB (hr.below (hW.mono hB)) hn
  have hw1 : IntKind.u32.wrap (n : Int) = n := by rw [IntKind.wrap_u32]; omega
  have hw2 : (n : Int) % 4294967296 = n := by omega
  have Hx : Hid (sumN (four n ++ l) < 4294967296) := sumN_lt ((okB_four _).append hok)
  have hlaid : Hid (laidR l = (four n ++ four (sumN (four n ++ l))) ++ l) := by show _ = _; rw [hn, List.append_assoc]; rfl
  obtain ⟨Q, hQ⟩ : ∃ Q, Q = four n := ⟨_, rfl⟩
  have hF := fun W => rfour_any n W (by omega)
  rw [← hQ] at Hx hlaid hF
  have HF := Lib.hid hF
  have HQ4 : Hid (Q.length = 4) := by show _ = _; rw [hQ]; rfl
  have HQok : Hid (OkB Q) := by rw [hQ]; exact okB_four _
  clear hn hr hok hF hQ
  go_enter Try.func30, Try.ntmps30
  go_wp2_with fail
  refine (HF.out _).mono ?_
  rintro e w1 ⟨v1, rfl, ho1, hb1⟩
  obtain ⟨A1, c1, rfl⟩ := ownB_slice ho1
  have HO1 := Lib.hid ho1
  have HB1 := Lib.hid hb1
  obtain ⟨r1, r2, r3⟩ := rdB_of_own ho1
  have hb1m : Below w1.heap.size w1 (w1.alloc (.cells #[] 5)) := (Below.refl _ _).alloc (Nat.le_refl _) _
  have HS1 := Lib.hid (src_of_rdB (r1.below hb1m) r2 : Src (w1.alloc (.cells #[] 5)) A1 4 1 (cellsB Q))
  have HB1m := Lib.hid (hb1.trans (hb1m.mono hb1.size))
  have Hsz1 := Lib.hid hb1.size
  clear ho1 hb1 r1 r2 r3 hb1m
  go_wp2_with (at_builtin; first
    | (refine wpList_append_src (base := w1.heap.size) rfl (.tmp 9) (.tmp 10) rfl Try.underlying30 hi0 hz0 hz1 hz2 rfl (by decide) rfl (World.ownsRow_made _ #[] 0 (Nat.le_refl _) (Nat.zero_le _) rfl) rfl HS1.out (cellsB_one _) (by decide) (by decide) (by simp) ?_; intro v2 w2 ho2 hg2 _; obtain ⟨A2, c2, rfl⟩ := ownB_slice ho2; have HC2 := Lib.hid ((((Below.refl _ w1).alloc (Nat.le_refl _) (.cells #[] 5)).grown hg2 (by simp) (fun k hk => by have e : some w1.heap.size = some k := hk; injection e with e; omega)) : Below w1.heap.size w1 w2); have HB2 := Lib.hid (HB1m.out.grown hg2 HB1m.out.size (fun k hk => by have e : some w1.heap.size = some k := hk; injection e with e; have := Hsz1.out; omega)); replace ho2 := Lib.hid ho2; have hsz2 := Lib.hid hg2.size; clear hg2)
    | (refine wpList_append_src (base := w1.heap.size) rfl (.tmp 11) (.tmp 12) rfl Try.underlying30 hi0 hz0 hz1 hz2 rfl (by decide) rfl ho2.out rfl (HSl.out _ HB2.out) (cellsB_one _) (by unfold maxLen; omega) (by omega) (by have := hsz2.out; simp at this; omega) ?_; intro v3 w3 ho3 hg3 _; obtain ⟨A3, c3, rfl⟩ := ownB_slice ho3; have HC3 := Lib.hid (HC2.out.grown hg3 HC2.out.size (fun k hk => (ho2.out.lt k hk).1)); have HB3 := Lib.hid (HB2.out.grown hg3 HB2.out.size (fun k hk => Nat.le_trans Hsz1.out (ho2.out.lt k hk).1)); replace ho3 := Lib.hid ho3; clear hg3))
  have ho3' : w3.ownsRow w1.heap.size 5 1 (.slice A3 (4 + n) c3) (4 + n) (cellsB (Q ++ l)) := by
    have := ho3.out
    rw [Nat.zero_add, List.nil_append, ← cellsB_append] at this
    exact this
  obtain ⟨r1, r2, _⟩ := rdB_of_own ho3'
  refine (rsum_any A3 (4 + n) c3 (Q ++ l) w3 w3.heap.size r2 (by unfold maxLen; omega) r1 (HQok.out.append Hok.out)).mono ?_
  rintro e w4 ⟨rfl, rfl⟩
  clear ho3' r1 r2
  obtain ⟨M, hM⟩ : ∃ M, M = sumN (Q ++ l) := ⟨_, rfl⟩
  rw [← hM] at Hx hlaid
  rw [← hM]
  clear hM
  go_wp2_with fail
  refine (rfour_any M _ Hx.out).mono ?_
  rintro e w4 ⟨v4, rfl, ho4, hb4⟩
  obtain ⟨A4, c4, rfl⟩ := ownB_slice ho4
  obtain ⟨r1, r2, _⟩ := rdB_of_own ho4
  have HS4 := Lib.hid (src_of_rdB r1 r2 : Src w4 A4 4 1 (cellsB (four M)))
  have HO4 := Lib.hid (ownB_below (ownB_below HO1.out HC3.out) (hb4.mono (Nat.le_refl _)))
  have HB4 := Lib.hid (HB3.out.trans (hb4.mono HB3.out.size))
  clear ho4 hb4 r1 r2
  go_wp2_with (at_builtin; first
    | (refine wpList_append_src (base := w.heap.size) rfl (.tmp 16) (.tmp 17) rfl Try.underlying30 hi0 hz0 hz1 hz2 rfl (by decide) rfl HO4.out rfl HS4.out (cellsB_one _) (by decide) (by decide) HB4.out.size ?_; intro v5 w5 ho5 hg5 _; obtain ⟨A5, c5, rfl⟩ := ownB_slice ho5; have HB5 := Lib.hid (HB4.out.grown hg5 HB4.out.size (fun k hk => (HO4.out.lt k hk).1)); replace ho5 := Lib.hid ho5; clear hg5)
    | (refine wpList_append_src (base := w.heap.size) rfl (.tmp 18) (.tmp 19) rfl Try.underlying30 hi0 hz0 hz1 hz2 rfl (by decide) rfl ho5.out rfl (HSl.out _ HB5.out) (cellsB_one _) (by unfold maxLen; omega) (by omega) HB5.out.size ?_; intro v6 w6 ho6 hg6 _; obtain ⟨A6, c6, rfl⟩ := ownB_slice ho6; have HB6 := Lib.hid (HB5.out.grown hg6 HB5.out.size (fun k hk => (ho5.out.lt k hk).1)); replace ho6 := Lib.hid ho6; clear hg6))
  go_ret
  refine ⟨_, rfl, ?_, HB6.out⟩
  have := ho6.out
  rw [← cellsB_append, ← cellsB_append, ← hlaid.out] at this
  rw [show n + 8 = 4 + 4 + n by omega]
  exact this
end Go.Proofs.Ytheojokfgndheaa
