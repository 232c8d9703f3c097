/- Layer 7: the sum of two parts, by a table. -/
import Derived.Test.YtgcfofnlgdfmoaaCrcSeal
import Derived.Test.YtgcfofnlgdfmoaaJlPlain
namespace Go.Proofs.Ytgcfofnlgdfmoaa
open Go.RowKit

theorem addN_add (s : Nat) (a b : List Nat) : addN (addN s a) b = addN s (a ++ b) := by
  unfold addN
  rw [Nat.xor_assoc, Nat.xor_self, Nat.xor_zero, reg_append]

set_option maxRecDepth 100000 in
set_option maxHeartbeats 1000000 in
/-- the sum of two parts; the slice of parts is a block of two slices, at block q -/
theorem tsum_two (g d s b q : Nat) (hd : d ≤ 1) (A1 : Option Addr) (n1 c1 : Nat) (l1 : List Nat) (A2 : Option Addr) (n2 c2 : Nat) (l2 : List Nat) (B : Nat) (w : World) (h : Tab w g d s b) (hn1 : n1 = l1.length) (hn2 : n2 = l2.length) (hm1 : n1 ≤ maxLen) (hm2 : n2 ≤ maxLen)
    (hs : s < 18446744073709551615) (hbn : b + n1 + n2 < 18446744073709551616) (hr1 : RdB w B A1 l1) (hok1 : OkB l1) (hoff1 : Off A1 g l1) (hr2 : RdB w B A2 l2) (hok2 : OkB l2) (hoff2 : Off A2 g l2) (hq : q ≠ g) (hcq1 : w.cell? ⟨q, 0, none⟩ = some (.slice A1 n1 c1)) (hcq2 : w.cell? ⟨q, 1, none⟩ = some (.slice A2 n2 c2)) (hql : q < w.heap.size) :
    Calls Try.prog 65 #[.pointer (some ⟨g, 0, none⟩), .slice (some ⟨q, 0, none⟩) 2 2] w fun e w' => e = .returned (.int .u32 (sumN (l1 ++ l2) : Nat)) ∧ TurnsIn w w' g (fun _ => True) ∧ Tab w' g 1 (s + 1) (b + n1 + n2) := by
  have HT1 := Lib.hid (h.summed (s + 1))
  have Ht1 := Lib.hid (TurnsIn.set w g 259 (.int .u64 (s + 1 : Nat)) (fun _ => True) trivial)
  have Hc := Lib.hid (count_add g 259 s 1 w (by omega) h.sums (h.fz 259))
  have Hr1 := Lib.hid (hr1.turned hoff1 Ht1.out)
  have Hr2 := Lib.hid (hr2.turned hoff2 Ht1.out)
  have hc1 := (World.cell?_setCell_other w ⟨g, 259, none⟩ ⟨q, 0, none⟩ (.int .u64 (s + 1 : Nat)) (by intro e; injection e with e; exact hq e.symm)).trans hcq1
  have hc2 := (World.cell?_setCell_other w ⟨g, 259, none⟩ ⟨q, 1, none⟩ (.int .u64 (s + 1 : Nat)) (by intro e; injection e with e; exact hq e.symm)).trans hcq2
  have Ha := Lib.hid (tadd_any g d (s + 1) b hd 0 (by decide) A1 n1 c1 l1 B _ HT1.out hn1 hm1 (by omega) Hr1.out hok1 hoff1)
  rw [addN_zero] at Ha
  have hsum : sumN l1 < 4294967296 := sumN_lt hok1
  have Ha2 : Hid (∀ w3, TurnsIn (w.setCell ⟨g, 259, none⟩ (.int .u64 (s + 1 : Nat))) w3 g (fun _ => True) → Tab w3 g 1 (s + 1) (b + n1) → Calls Try.prog 85 #[.pointer (some ⟨g, 0, none⟩), .int .u32 (sumN l1 : Nat), .slice A2 n2 c2] w3 fun e w' => e = .returned (.int .u32 (addN (sumN l1) l2 : Nat)) ∧ TurnsIn w3 w' g (fun _ => True) ∧ Tab w' g 1 (s + 1) (b + n1 + n2)) := fun w3 ht hT =>
    (tadd_any g 1 (s + 1) (b + n1) (by decide) (sumN l1) hsum A2 n2 c2 l2 B w3 hT hn2 hm2 (by omega) (Hr2.out.turned hoff2 ht) hok2 hoff2)
  have Hadd : Hid (addN (sumN l1) l2 = sumN (l1 ++ l2)) := by
    show _ = _
    rw [← addN_zero, ← addN_zero, addN_add]
  have hqg : q ≠ g := hq
  have hql2 : q < (w.setCell ⟨g, 259, none⟩ (.int .u64 (s + 1 : Nat))).heap.size := by simpa using hql
  clear h hr1 hr2 hok1 hok2 hcq1 hcq2 hn1 hn2 hsum hql
  go_enter Try.func65, Try.ntmps65
  go_wp2_with fail
  refine Hc.out.mono ?_
  rintro e w2 ⟨rfl, rfl⟩
  clear Hc Hr1 Hr2
  generalize (w.setCell ⟨g, 259, none⟩ (.int .u64 (s + 1 : Nat))) = w2 at *
  go_wp2
  refine wp_loop_rounds 3 ?_
  rw [rounds_succ]
  go_wp2_with fail
  refine Ha.out.mono ?_
  rintro e w3 ⟨rfl, ht3, hT3⟩
  have Ht3 := Lib.hid ht3
  have HT3 := Lib.hid hT3
  have hc3 := (World.cell?_of_block (w := w2) (w' := w3) (a := ⟨q, 1, none⟩) (ht3.grown.block q hql2 (fun e => hqg (by injection e)))).trans hc2
  clear ht3 hT3
  go_wp2
  rw [rounds_succ]
  go_wp2_with fail
  refine (Ha2.out w3 Ht3.out HT3.out).mono ?_
  rintro e w4 ⟨rfl, ht4, hT4⟩
  have Ht4 := Lib.hid ht4
  have HT4 := Lib.hid hT4
  clear ht4 hT4
  go_wp2
  rw [rounds_succ]
  go_wp2
  go_ret
  exact ⟨by rw [Hadd.out]; rfl, Ht1.out.trans (Ht3.out.trans Ht4.out), HT4.out⟩
end Go.Proofs.Ytgcfofnlgdfmoaa
