/- Layer 4: item.takeLabels. -/
import Derived.Test.YtkkilfoncdbciaaItTk
namespace Go.Proofs.Ytkkilfoncdbciaa
open Go.RowKit

theorem rL_len (mk mv : Nat) : ∀ (n : Nat) (s : St), (rL mk mv n s).1.length = n
  | 0, _ => rfl
  | n + 1, s => by
    show ((rL mk mv n (rT mv (rT mk s).2).2).1).length + 1 = n + 1
    rw [rL_len mk mv n]
theorem rL_succ {mk mv n : Nat} {s s1 s2 : St} {a b : ByteArray} (h1 : rT mk s = (a, s1)) (h2 : rT mv s1 = (b, s2)) : rL mk mv (n + 1) s = ((a, b) :: (rL mk mv n s2).1, (rL mk mv n s2).2) := by
  simp [rL, bnd, h1, h2, ret]
/-- the labels that were taken lie in new memory -/
def LabsRet (l : List Pr) (s : St) (g : Nat) (w : World) (e : Ending) (w' : World) : Prop :=
  ∃ A n c, e = .returned (.slice A n c) ∧ n = l.length ∧ w'.ownsRow w.heap.size 61 2 (.slice A n c) n (cellsP l) ∧ RdT w' g s ∧ w.grownBy w' (some g)
/-- the worlds of a round: both texts are read, the pair is laid -/
theorem labs_round {w wr w1 w2 : World} {g k : Nat} {a b : ByteArray} {s2 : St} {v : Value} {d : List Pr} {e : TypeId}
    (hg : w.grownBy wr (some g)) (h1 : wr.grownBy w1 (some g)) (h2 : w1.grownBy w2 (some g)) (hv : wr.ownsRow w.heap.size e 2 v k (cellsP d)) (hgl : g < w.heap.size) (hr : RdT w2 g s2) :
    (w2.alloc (.cells #[.string a, .string b] e)).ownsRow w.heap.size e 2 v k (cellsP d) ∧ RdT (w2.alloc (.cells #[.string a, .string b] e)) g s2 ∧ w.grownBy (w2.alloc (.cells #[.string a, .string b] e)) (some g) := by
  have hne : v.ownBlock = none ∨ v.ownBlock ≠ some g := by
    cases hv0 : v.ownBlock with
    | none => exact .inl rfl
    | some k => exact .inr (fun e => by have := (hv.lt k hv0).1; cases e; omega)
  have hb : Below w2.heap.size w2 (w2.alloc (.cells #[.string a, .string b] e)) := (Below.refl _ _).alloc (Nat.le_refl _) _
  exact ⟨own_below ((hv.kept h1 hne).kept h2 hne) hb, hr.below hb, grown_alloc (grownBy_trans (grownBy_trans hg h1) h2) _⟩

set_option maxRecDepth 100000 in
set_option maxHeartbeats 1000000 in
theorem takeLabels_any (g : Nat) (s : St) (w : World) (h : RdT w g s) :
    Calls Try.prog 71 #[.pointer (some ⟨g, 0, none⟩)] w (LabsRet (rLabs 8 8 16 s).1 (rLabs 8 8 16 s).2 g w) := by
  obtain ⟨n, s1, h1⟩ : ∃ n s1, rC 8 s = (n, s1) := ⟨_, _, rfl⟩
  have hn : n ≤ 8 := by have := rC_le 8 s; rw [h1] at this; exact this
  have hL : rLabs 8 8 16 s = rL 8 16 n s1 := by simp [rLabs, bnd, h1]
  rw [hL]
  obtain ⟨i0, hi, hz0, hz1, hz2⟩ := info_parts Try.infoP
  have t1 := tk_count8 g s w h
  rw [h1] at t1
  have HT1 := Lib.hid t1
  have hgl := h.lt
  clear t1 h1 hL h
  go_enter Try.func71, Try.ntmps71
  go_wp2_with fail
  refine HT1.out.mono ?_
  rintro e w1 ⟨rfl, hr1, hg1⟩
  have HR1 := Lib.hid hr1
  have HG1 := Lib.hid hg1
  have HO1 := Lib.hid (World.ownsRow_nil w1 w.heap.size 61 2)
  clear hr1 hg1 HT1
  go_wp2_with fail
  go_loopw [3, 6] (fun x3 x6 wr => ∃ (k j : Nat) (v : Value) (d : List Pr) (sk : St), k + j = n ∧ x3 = v ∧ x6 = .int .u64 k ∧ Hid (d.length = k) ∧ Hid (rL 8 16 n s1 = (d ++ (rL 8 16 j sk).1, (rL 8 16 j sk).2)) ∧ Hid (wr.ownsRow w.heap.size 61 2 v k (cellsP d)) ∧ Hid (RdT wr g sk) ∧ Hid (w.grownBy wr (some g))) (fun _ x6 _ => 9 - (intOf x6).toNat)
  case atStart => exact ⟨0, n, _, [], s1, by omega, rfl, rfl, rfl, rfl, HO1.out, HR1.out, HG1.out⟩
  case round =>
    obtain ⟨k, j, v, d, sk, hkj, rfl, rfl, HD, HL, HV, HR, HG⟩ := hrel
    clear HR1 HG1 HO1
    by_cases hlt : k < n
    · have hb1 : decide ((k : Int) < (n : Int)) = true := decide_eq_true (by omega)
      have hb2 : decide (k < n) = true := decide_eq_true hlt
      obtain ⟨j, rfl⟩ : ∃ q, j = q + 1 := ⟨j - 1, by omega⟩
      obtain ⟨a, s2, h2⟩ : ∃ a s2, rT 8 sk = (a, s2) := ⟨_, _, rfl⟩
      obtain ⟨b, s3, h3⟩ : ∃ q q2, rT 16 s2 = (q, q2) := ⟨_, _, rfl⟩
      have HL2 := Lib.hid (HL.out.trans (by rw [rL_succ h2 h3]))
      have t2 := tk_text8 g sk wr HR.out
      have t3 := fun W H => tk_text16 g s2 W H
      rw [h2] at t2
      rw [h3] at t3
      have HT2 := Lib.hid t2
      have HT3 := Lib.hid t3
      clear t2 t3 h2 h3 HR HL
      go_wp2_with fail
      refine HT2.out.mono ?_
      rintro e w2 ⟨rfl, hr2, hg2⟩
      have HR2 := Lib.hid hr2
      have HG2 := Lib.hid hg2
      clear hr2 hg2 HT2
      go_wp2_with fail
      refine (HT3.out w2 HR2.out).mono ?_
      rintro e w3 ⟨rfl, hr3, hg3⟩
      have HX := Lib.hid (labs_round (a := a) (b := b) HG.out HG2.out hg3 HV.out hgl hr3)
      have HSrc := Lib.hid (src_pair (p := (a, b)) (heap_alloc_new w3 (.cells #[.string a, .string b] 61)))
      have hws := hg3.size
      have hws2 := HG2.out.size
      have hws3 := HG.out.size
      clear hr3 hg3 HT3 HV HR2 HG2 HG
      go_wp2_with (at_builtin; refine wpList_append_src (base := w.heap.size) rfl _ _ rfl Try.underlying23 hi hz0 hz1 hz2 rfl (by decide) rfl HX.out.1 rfl HSrc.out (cellsP_one _) (by unfold maxLen; omega) (by omega) (by simp; omega) ?_; intro v2 w4 hr4 hg4 hb4; obtain ⟨A4, c4', rfl⟩ := own_slice hr4; have HG4 := Lib.hid (grown_fresh HX.out.2.2 hg4 (fun q hq => (HX.out.1.lt q hq).1)); have HR4 := Lib.hid (HX.out.2.1.kept hg4 (fun q hq => Nat.lt_of_lt_of_le hgl (HX.out.1.lt q hq).1)); replace hr4 := Lib.hid hr4; clear hg4 hb4)
      refine ⟨⟨k + 1, j, .slice A4 (k + 1) c4', d ++ [(a, b)], s3, by omega, rfl, by go_num, ?_, ?_, ?_, HR4.out, HG4.out⟩, by simp [intOf]; omega⟩
      · show (d ++ [(a, b)]).length = _
        rw [List.length_append, HD.out]; rfl
      · rw [List.append_assoc]; exact HL2.out
      · show World.ownsRow _ _ _ _ _ _ _
        rw [cellsP_append]; exact hr4.out
    · have hb1 : decide ((k : Int) < (n : Int)) = false := decide_eq_false (by omega)
      have hb2 : decide (k < n) = false := decide_eq_false hlt
      obtain rfl : j = 0 := by omega
      obtain rfl : k = n := by omega
      obtain ⟨A, c, rfl⟩ := own_slice HV.out
      clear hlt hkj
      go_wp2_with fail
      go_ret
      refine ⟨A, k, c, rfl, ?_, ?_, ?_, HG.out⟩
      · rw [HL.out]; show _ = (d ++ []).length; rw [List.append_nil, HD.out]
      · rw [HL.out]; show World.ownsRow _ _ _ _ _ _ (cellsP (d ++ [])); rw [List.append_nil]; exact HV.out
      · rw [HL.out]; exact HR.out
end Go.Proofs.Ytkkilfoncdbciaa
