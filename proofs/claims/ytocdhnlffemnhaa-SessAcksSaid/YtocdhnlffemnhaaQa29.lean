/- Several texts in one: SsAks, SessAcks. -/
import Derived.Deep.DeepCutAuto
import Derived.Deep.CutBlock
import Derived.Test.YtocdhnlffemnhaaQa3
import Derived.Test.YtocdhnlffemnhaaQa24
import Derived.Test.YtocdhnlffemnhaaQa28
/- Layer 12: SessAcks in numbers: an end of life 3, without anything in flight, that is acknowledged. -/
namespace Go.Proofs.Ytocdhnlffemnhaa
open Go.RowKit
/-- an end of life 3 in session ss, which saw the life se; all new since w0 -/
def OA (w0 w : World) (o ss se : Nat) : Prop :=
  ∃ S, OutAt w S o ⟨1, 0, 3, 4, 1, 2, ss, se⟩ ⟨4, 1, 2, 0, 0, 0⟩ [] ∧ (∀ k, S k → w0.heap.size ≤ k) ∧ Below w0.heap.size w0 w
section
variable {w0 w w' : World} {o ss se l : Nat}
theorem OA.bl (h : OA w0 w o ss se) : Below w0.heap.size w0 w := by
  obtain ⟨S, -, -, h⟩ := h
  exact h
theorem OA.below (h : OA w0 w o ss se) (hb : Below w.heap.size w w') : OA w0 w' o ss se := by
  obtain ⟨S, h1, h2, h3⟩ := h
  exact ⟨S, h1.below hb, h2, h3.trans (hb.mono h3.size)⟩
theorem oa_new (w : World) (hb : Below w0.heap.size w0 w) : Calls Try.prog 6 #[.int .u8 1, .int .u8 0, .int .u64 3, .agg #[.int .i64 4, .int .u64 1, .int .u64 2]] w fun e w' => ∃ o, e = .returned (.tuple #[.pointer (some ⟨o, 0, none⟩), .int .i64 0]) ∧ OA w0 w' o 1 0 := by
  refine (newOut_any 1 0 3 4 1 2 w (by decide) (by decide) (by decide) (by decide) (by decide) (by decide) (by decide) (by decide) (by decide) (by decide)).mono ?_
  rintro e w' ⟨S, o, he, ho, hS, hb2⟩
  exact ⟨o, he, S, ho, fun k hk => Nat.le_trans hb.size (hS k hk), hb.trans (hb2.mono hb.size)⟩
theorem oa_epoch (h : OA w0 w o ss se) (hs : ss ≤ 1000) : Calls Try.prog 8 #[.pointer (some ⟨o, 0, none⟩)] w fun e w' => e = .returned (.int .u64 (3145728 + ss : Nat)) ∧ OA w0 w' o ss se := by
  obtain ⟨S, h1, h2, h3⟩ := h
  refine (oepoch_any w h1 (by decide : 3 ≤ 1048575) (by show ss ≤ _; omega)).mono ?_
  rintro e w' ⟨rfl, hb⟩
  have e1 : Ou.ep ⟨1, 0, 3, 4, 1, 2, ss, se⟩ = 3145728 + ss := by show 3 * 1048576 + ss = _; omega
  exact ⟨by rw [e1], S, h1.below hb, h2, h3.trans (hb.mono h3.size)⟩
/-- any frame at all: the error -/
theorem oa_any (f : Fm) (h : OA w0 w o 1 0) : Calls Try.prog 7 #[.pointer (some ⟨o, 0, none⟩), .agg (frmC f).toArray] w fun e w' => ∃ (ix z : Nat), e = .returned (.tuple #[.int .u64 ix, .int .i64 z]) ∧ (wayE 1 0 2 f ≠ 0 → z = wayE 1 0 2 f) ∧ (wayE 1 0 2 f = 0 → f.e ≠ 3145729 → z = 17) ∧ Below w0.heap.size w0 w' := by
  obtain ⟨S, h1, h2, h3⟩ := h
  by_cases hz : wayE 1 0 2 f = 0
  · have hep : Ou.ep ⟨1, 0, 3, 4, 1, 2, 1, 0⟩ = 3145729 := by decide
    by_cases he : f.e = 3145729
    · by_cases hc : f.c = 0
      · refine (oack_same (ix := 0) (z := 0) (X' := ⟨4, 1, 2, 0, 0, 0⟩) (L' := headF (markL (f.c + 2) f.b [])) w h1 hz (by decide : 3 ≤ 1048575) (by decide : 1 ≤ 1048575) (by rw [hep]; exact he) (.inl rfl) (fun W s T hs => ?_)).mono ?_
        · refine (sdack_old (cum := f.c) (bits := f.b) W hs (by decide : 0 ≤ 1099511627776000) (by show f.c ≤ 0; omega) (fun g hg => by cases hg)).mono ?_
          rintro e w' ⟨k1, k2, k3⟩
          exact ⟨k1, T, k2, k3⟩
        · rintro e w' ⟨k1, S', k2, k3⟩
          exact ⟨0, 0, k1, fun h => absurd hz h, fun _ h => absurd he h, h3.trans (k3.only.below h3.size h2)⟩
      · refine (oack_same (ix := 0) (z := 6) (X' := ⟨4, 1, 2, 0, 0, 0⟩) (L' := []) w h1 hz (by decide : 3 ≤ 1048575) (by decide : 1 ≤ 1048575) (by rw [hep]; exact he) (.inl rfl) (fun W s T hs => ?_)).mono ?_
        · refine (sdack_wrong (cum := f.c) (bits := f.b) W hs (by decide : 0 ≤ 1099511627776000) (by show 0 + 0 + 1 ≤ f.c; omega)).mono ?_
          rintro e w' ⟨k1, k2⟩
          exact ⟨k1, T, hs.below k2, Step.of_below T k2⟩
        · rintro e w' ⟨k1, S', k2, k3⟩
          exact ⟨0, 6, k1, fun h => absurd hz h, fun _ h => absurd he h, h3.trans (k3.only.below h3.size h2)⟩
    · refine (oack_epoch (f := f) w h1 hz (by decide : 3 ≤ 1048575) (by decide : 1 ≤ 1048575) (by rw [hep]; exact he)).mono ?_
      rintro e w' ⟨k1, k2⟩
      exact ⟨0, 17, k1, fun h => absurd hz h, fun _ _ => rfl, h3.trans (k2.mono h3.size)⟩
  · refine (oack_wrong (f := f) w h1 hz).mono ?_
    rintro e w' ⟨k1, k2⟩
    exact ⟨0, _, k1, fun _ => rfl, fun h => absurd h hz, h3.trans (k2.mono h3.size)⟩
theorem or_ep {ss : Nat} (h : ss ≤ 1000) : bits .or .u64 3145728 (ss : Int) = ((3145728 + ss : Nat) : Int) := by
  have h1 := u64_or_nat 3145728 ss (by decide) (by omega)
  have h2 : (3145728 ||| ss : Nat) = 3145728 + ss := by
    have := Nat.shiftLeft_add_eq_or_of_lt (b := ss) (i := 20) (by omega) 3
    rw [show (3 <<< 20 : Nat) = 3145728 from rfl] at this
    exact this.symm
  rw [h2] at h1
  exact h1
/-- an answer of this epoch, of a life -/
def akF (ss l : Nat) : Fm := ⟨2, 0, 1, 3145728 + ss, 0, ⟨false, 0, 0, 0, ⟨#[]⟩, [], 0, 0, 0, 0, 0, 0, 0⟩, none, 0, 0, 0, l⟩
def akE (se l : Nat) : Nat := if l < se then 17 else if 0 < se ∧ se < l then 18 else 0
theorem oa_ack {ep : Nat} (hep : ep = 3145728 + ss) (h : OA w0 w o ss se) (hs : ss ≤ 1000) : Calls Try.prog 7 #[.pointer (some ⟨o, 0, none⟩), .agg #[.int .u8 2, .int .u8 0, .int .u8 1, .int .u64 ep, .int .u64 0, .bool false, .int .u8 0, .int .u64 0, .int .u64 0, .string ⟨#[]⟩, .slice none 0 0, .int .u8 0, .int .u8 0, .int .i64 0, .int .u8 0, .int .u8 0, .int .u64 0, .int .u64 0, .int .u64 0, .int .u64 0, .int .u64 l]] w fun e w' => ∃ ix : Nat, e = .returned (.tuple #[.int .u64 ix, .int .i64 (akE se l : Nat)]) ∧ OA w0 w' o (if akE se l = 18 then ss + 1 else ss) (if l < se then se else l) := by
  subst hep
  obtain ⟨S, h1, h2, h3⟩ := h
  have hz : wayE 1 0 2 (akF ss l) = 0 := rfl
  have hE : (akF ss l).e = Ou.ep ⟨1, 0, 3, 4, 1, 2, ss, se⟩ := by show 3145728 + ss = 3 * 1048576 + ss; omega
  by_cases hlt : l < se
  · have e1 : akE se l = 17 := by unfold akE; rw [if_pos hlt]
    refine (oack_life (f := akF ss l) w h1 hz (by decide : 3 ≤ 1048575) (by show ss ≤ _; omega) hE hlt).mono ?_
    rintro e w' ⟨k1, k2⟩
    rw [e1, if_pos hlt, if_neg (by decide)]
    exact ⟨0, k1, S, h1.below k2, h2, h3.trans (k2.mono h3.size)⟩
  · by_cases hn : 0 < se ∧ se < l
    · have e1 : akE se l = 18 := by unfold akE; rw [if_neg hlt, if_pos hn]
      refine (oack_new (f := akF ss l) w h1 hz (by decide : 3 ≤ 1048575) (by show ss < _; omega) (by decide : 1 ≤ 4) (by decide : 4 ≤ 64) (by decide : 0 < 1) (by decide : 1 ≤ 2) (by decide : 2 ≤ 1048576) hE hn.2 hn.1).mono ?_
      rintro e w' ⟨k1, S', k2, k3⟩
      rw [e1, if_neg hlt, if_pos rfl]
      exact ⟨0, k1, S', k2, fun k hk => (k3.new k hk).elim (h2 k) (fun h => Nat.le_trans h3.size h), h3.trans (k3.only.below h3.size h2)⟩
    · have e1 : akE se l = 0 := by unfold akE; rw [if_neg hlt, if_neg hn]
      refine (oack_same (f := akF ss l) (ix := 0) (z := 0) (X' := ⟨4, 1, 2, 0, 0, 0⟩) (L' := []) w h1 hz (by decide : 3 ≤ 1048575) (by show ss ≤ _; omega) hE (show se = 0 ∨ se = l by omega) (fun W s T hs => ?_)).mono ?_
      · refine (sdack_old (cum := 0) (bits := 0) W hs (by decide : 0 ≤ 1099511627776000) (Nat.le_refl 0) (fun g hg => by cases hg)).mono ?_
        rintro e w' ⟨k1, k2, k3⟩
        exact ⟨k1, T, k2, k3⟩
      · rintro e w' ⟨k1, S', k2, k3⟩
        rw [e1, if_neg hlt, if_neg (by decide)]
        exact ⟨0, k1, S', k2, fun k hk => (k3.new k hk).elim (h2 k) (fun h => Nat.le_trans h3.size h), h3.trans (k3.only.below h3.size h2)⟩
end
end Go.Proofs.Ytocdhnlffemnhaa
/- Layer 12: SessAcks's walk. -/
namespace Go.Proofs.Ytocdhnlffemnhaa
open Go.RowKit
namespace sessAcks
set_option maxRecDepth 100000 in
set_option maxHeartbeats 8000000 in
theorem walk (y : Fm) (x1 : Nat) (A : Option Addr) (n c : Nat) (l : List Nat) (w : World) (hy : y.x.l.length ≤ maxLen) (hn : n = l.length) (hm : n ≤ maxLen) (hr : RdB w w.heap.size A l) (hok : ∀ x ∈ l, x < 256) :
    Calls Try.prog 3 #[.agg (frmC y).toArray, .int .u8 x1, .slice A n c] w fun e w' => e = .returned (.bool true) ∧ Below w.heap.size w w' := by
  unfold maxLen at hm hy
  obtain ⟨V, hV⟩ : ∃ V, V = w.alloc (.cells (frmC y).toArray 32) := ⟨_, rfl⟩
  have hb : Below w.heap.size w V := by rw [hV]; exact (Below.refl _ _).alloc (Nat.le_refl _) _
  have hx : V.heap[w.heap.size]? = some (.cells (frmC y).toArray 32 (0, 0)) := by rw [hV]; exact heap_alloc_new _ _
  obtain ⟨g, hg⟩ : ∃ g, g = w.heap.size := ⟨_, rfl⟩
  obtain ⟨k, hk⟩ : ∃ k, k = y.x.l.length := ⟨_, rfl⟩
  rw [← hk] at hy
  have HR := Lib.hid (fun W (hW : Below V.heap.size V W) => (hW.block _ (Array.getElem?_eq_some_iff.1 hx).1).trans hx)
  have HC : Hid (∀ W, Below V.heap.size V W → W.cell? ⟨g, 10, none⟩ = some (.slice y.A k y.z) ∧ W.cell? ⟨g, 0, none⟩ = some (.int .u8 y.k) ∧ W.cell? ⟨g, 1, none⟩ = some (.int .u8 y.f) ∧ W.cell? ⟨g, 2, none⟩ = some (.int .u8 y.t) ∧ W.cell? ⟨g, 3, none⟩ = some (.int .u64 y.e)) := fun W hW => by
    have h := HR.out W hW
    rw [hg]
    exact ⟨by rw [hk]; exact cell_of_row _ _ 10 _ _ _ h, cell_of_row _ _ 0 _ _ _ h, cell_of_row _ _ 1 _ _ _ h, cell_of_row _ _ 2 _ _ _ h, cell_of_row _ _ 3 _ _ _ h⟩
  have HB := Lib.hid hb
  have HRL := Lib.hid hr
  have HN := Lib.hid hn
  have HOK := Lib.hid hok
  have HG := Lib.hid hg
  rw [← hg] at HR
  clear hb hx hr hn hok hk
  go_enter Try.func3, Try.ntmps3
  go_upto_region 1 with fail
  rw [← hV, ← hg]
  clear hV hg
  go_wp2_with fail
  refine (awake12_any V).mono ?_
  rintro _ w1 ⟨rfl, hb1⟩
  have HB1 := Lib.hid hb1
  have c10 := (HC.out w1 hb1).1
  clear hb1
  by_cases h12 : 12 < k
  · have d1 : decide ((12 : Int) < (k : Int)) = true := decide_eq_true (by omega)
    have d2 : decide (12 < k) = true := decide_eq_true h12
    go_wp2
    go_ret
    exact ⟨rfl, HB.out.trans (HB1.out.mono HB.out.size)⟩
  have d1 : decide ((12 : Int) < (k : Int)) = false := decide_eq_false (by omega)
  have d2 : decide (12 < k) = false := decide_eq_false h12
  by_cases h10 : 10 < n
  · have d3 : decide ((10 : Int) < (n : Int)) = true := decide_eq_true (by omega)
    have d4 : decide (10 < n) = true := decide_eq_true h10
    go_wp2
    go_ret
    exact ⟨rfl, HB.out.trans (HB1.out.mono HB.out.size)⟩
  have d3 : decide ((10 : Int) < (n : Int)) = false := decide_eq_false (by omega)
  have d4 : decide (10 < n) = false := decide_eq_false h10
  have HNW := Lib.hid (oa_new w1 HB1.out)
  go_wp2_with fail
  refine HNW.out.mono ?_
  rintro _ w2 ⟨o, rfl, h2⟩
  have HR2 := Lib.hid (HR.out w2 h2.bl)
  have HAN := Lib.hid (oa_any y h2)
  clear h2 HNW HB1 c10 d1 d2 d3 d4 h12
  go_wp2_with (first
    | (refine wpList_load_row rfl _ _ rfl g rfl _ _ _ _ HR2.out Try.underlying32 rfl Try.infoFr ?_)
    | fail)
  refine HAN.out.mono ?_
  rintro _ w3 ⟨ix, z, rfl, hz1, hz2, hb3⟩
  have HB3 := Lib.hid hb3
  have HZ := Lib.hid (⟨hz1, hz2⟩ : _ ∧ _)
  clear hz1 hz2 hb3 HAN HR2
  obtain ⟨-, k0, k1, k2, k3⟩ := HC.out w3 HB3.out
  obtain ⟨b1, hb1⟩ : ∃ b1, b1 = ((y.k : Int) != 2) := ⟨_, rfl⟩
  obtain ⟨b2, hb2⟩ : ∃ b2, b2 = ((y.f : Int) != 0) := ⟨_, rfl⟩
  obtain ⟨b3, hb3⟩ : ∃ b3, b3 = ((y.t : Int) != 1) := ⟨_, rfl⟩
  obtain ⟨b4, hb4⟩ : ∃ b4, b4 = ((y.e : Int) != 3145729) := ⟨_, rfl⟩
  have g1 : ((y.k : Int) != 2) = b1 := hb1.symm
  have g2 : ((y.f : Int) != 0) = b2 := hb2.symm
  have g3 : ((y.t : Int) != 1) = b3 := hb3.symm
  have g4 : ((y.e : Int) != 3145729) = b4 := hb4.symm
  have hzz : (b1 = true → z = 12) ∧ (b1 = false → (b2 || b3) = true → z = 21) ∧ (b1 = false → (b2 || b3) = false → b4 = true → z = 17) := by
    have w1 : b1 = decide (y.k ≠ 2) := by rw [hb1, Bool.eq_iff_iff, bne_iff_ne, decide_eq_true_iff]; omega
    have w2 : b2 = decide (y.f ≠ 0) := by rw [hb2, Bool.eq_iff_iff, bne_iff_ne, decide_eq_true_iff]; omega
    have w3 : b3 = decide (y.t ≠ 1) := by rw [hb3, Bool.eq_iff_iff, bne_iff_ne, decide_eq_true_iff]; omega
    have w4 : b4 = decide (y.e ≠ 3145729) := by rw [hb4, Bool.eq_iff_iff, bne_iff_ne, decide_eq_true_iff]; omega
    rw [w1, w2, w3, w4]
    simp only [decide_eq_true_eq, decide_eq_false_iff_not, Bool.or_eq_true, Bool.or_eq_false_iff]
    have e := HZ.out
    unfold wayE at e
    refine ⟨fun h1 => ?_, fun h1 h2 => ?_, fun h1 h2 h4 => ?_⟩
    · rw [if_pos h1] at e
      exact e.1 (by decide)
    · rw [if_neg h1, if_pos h2] at e
      exact e.1 (by decide)
    · rw [if_neg h1, if_neg (by omega)] at e
      exact e.2 rfl h4
  have HZZ := Lib.hid hzz
  clear hb1 hb2 hb3 hb4 hzz HZ
  go_upto_block 0 with fail
  go_cut [6] (fun v wx => v = .bool false ∧ wx = w3)
  case first =>
    cases b1 with
    | true =>
      have e1 := HZZ.out.1 rfl
      subst e1
      go_wp2
      go_meet
      exact ⟨rfl, rfl⟩
    | false =>
      cases b2 <;> cases b3
      case false.false =>
        cases b4 with
        | true =>
          have e1 := HZZ.out.2.2 rfl rfl rfl
          subst e1
          go_wp2
          go_meet
          exact ⟨rfl, rfl⟩
        | false =>
          go_wp2
          go_meet
          exact ⟨rfl, rfl⟩
      all_goals
        have e1 := HZZ.out.2.1 rfl rfl
        subst e1
        go_wp2
        go_meet
        exact ⟨rfl, rfl⟩
  case rest =>
  obtain ⟨rfl, hwc⟩ := hcut
  subst hwc
  have HNW := Lib.hid (oa_new wc HB3.out)
  clear HZZ g1 g2 g3 g4 k0 k1 k2 k3 hy HR HC
  have hn10 : n ≤ 10 := by omega
  go_wp2_with fail
  refine HNW.out.mono ?_
  rintro _ w4 ⟨p, rfl, h4⟩
  have HA4 := Lib.hid h4
  clear h4 HNW HB3
  go_wp2_with fail
  go_loopw [11, 12, 73] (fun sv nv iv wx => ∃ (i se ss : Nat), i ≤ n ∧ iv = .int .i64 i ∧ sv = .int .u64 se ∧ nv = .int .u64 ss ∧ se ≤ 6 ∧ ss ≤ i + 1 ∧ Hid (OA V wx p ss se)) (fun _ _ iv _ => n - (intOf iv).toNat)
  case atStart => exact ⟨0, 0, 1, Nat.zero_le _, rfl, rfl, rfl, by decide, by decide, HA4.out⟩
  case round =>
    obtain ⟨i, se, ss, hi, rfl, rfl, rfl, hse, hss, HO⟩ := hrel
    clear HA4
    by_cases hlt : i < n
    · have q1 : decide ((i : Int) < (n : Int)) = true := decide_eq_true (by omega)
      have q2 : decide (i < n) = true := decide_eq_true hlt
      have hbw : Below w.heap.size w wr := HB.out.trans (HO.out.bl.mono HB.out.size)
      obtain ⟨b, o2, x, rfl, -, hx, hc⟩ := (HRL.out.below hbw).at_ (k := i) (by rw [← HN.out]; exact hlt)
      have hx8 := HOK.out x (List.mem_of_getElem? hx)
      obtain ⟨r, hr⟩ : ∃ r, r = x % 6 := ⟨_, rfl⟩
      obtain ⟨lf, hlf⟩ : ∃ z, z = 1 + r := ⟨_, rfl⟩
      have e1 : (x : Int) % 6 = (r : Int) := by omega
      have e2 : (1 : Int) + (r : Int) = (lf : Int) := by omega
      have hl1 : 1 ≤ lf := by omega
      have hl6 : lf ≤ 6 := by omega
      obtain ⟨ep, hep⟩ : ∃ e, e = 3145728 + ss := ⟨_, rfl⟩
      have hs2 : ss ≤ 1000 := by omega
      have e3 : bits .or .u64 3145728 (ss : Int) = (ep : Int) := by rw [hep]; exact or_ep hs2
      have HAK := Lib.hid (oa_ack (l := lf) hep HO.out hs2)
      have HEP := Lib.hid hep
      clear hbw hx hr hlf hep
      go_wp2_with fail
      refine HAK.out.mono ?_
      by_cases hA : lf < se
      · have hE : akE se lf = 17 := by unfold akE; rw [if_pos hA]
        rw [hE, if_pos hA, if_neg (by decide)]
        rintro _ w5 ⟨ix2, rfl, h5⟩
        have HO5 := Lib.hid h5
        have p1 : decide (lf < se) = true := decide_eq_true hA
        have p2 : decide ((lf : Int) < (se : Int)) = true := decide_eq_true (by omega)
        have hepi : ep = 3145728 + ss := HEP.out
        have HI9 : ((3145728 + ss : Nat) : Int) = (ep : Int) := by omega
        have HI := Lib.hid HI9
        clear h5 HAK HO hE hepi HI9
        have HEC := Lib.hid (oa_epoch HO5.out (by omega))
        rw [HI.out] at HEC
        go_wp2_with fail
        refine HEC.out.mono ?_
        rintro _ w6 ⟨rfl, h6⟩
        have HO6 := Lib.hid h6
        clear h6 HEC HO5
        go_wp2
        go_roundw
        case rel => exact ⟨i + 1, se, ss, by omega, by go_num, rfl, rfl, by omega, by omega, HO6.out⟩
        case measure => simp [intOf]; omega
      · have p1 : decide (lf < se) = false := decide_eq_false hA
        have p2 : decide ((lf : Int) < (se : Int)) = false := decide_eq_false (by omega)
        by_cases hB : 0 < se ∧ se < lf
        · have hE : akE se lf = 18 := by unfold akE; rw [if_neg hA, if_pos hB]
          rw [hE, if_neg hA, if_pos rfl]
          rintro _ w5 ⟨ix2, rfl, h5⟩
          obtain ⟨s1, hs1⟩ : ∃ z, z = ss + 1 := ⟨_, rfl⟩
          rw [← hs1] at h5
          have HO5 := Lib.hid h5
          obtain ⟨hB1, hB2⟩ := hB
          have p3 : decide (0 < se) = true := decide_eq_true hB1
          have p4 : decide (se < lf) = true := decide_eq_true hB2
          have p5 : decide ((0 : Int) < (se : Int)) = true := decide_eq_true (by omega)
          have p6 : decide ((se : Int) < (lf : Int)) = true := decide_eq_true (by omega)
          obtain ⟨ep1, hep1⟩ : ∃ z, z = 3145728 + s1 := ⟨_, rfl⟩
          have hs13 : s1 ≤ 12 := by omega
          have hs14 : s1 ≤ i + 1 + 1 := by omega
          have f1 : (ss : Int) + 1 = (s1 : Int) := by omega
          have f2 : bits .or .u64 3145728 (s1 : Int) = (ep1 : Int) := by rw [hep1]; exact or_ep (by omega)
          have HI9 : ((3145728 + s1 : Nat) : Int) = (ep1 : Int) := by omega
          have HI := Lib.hid HI9
          have HEC := Lib.hid (oa_epoch HO5.out (by omega))
          rw [HI.out] at HEC
          clear h5 HAK HO hE HI9 hep1 hs1 e3
          go_wp2_with fail
          refine HEC.out.mono ?_
          rintro _ w6 ⟨rfl, h6⟩
          have HO6 := Lib.hid h6
          clear h6 HEC HO5
          go_wp2
          go_roundw
          case rel => exact ⟨i + 1, lf, s1, by omega, by go_num, rfl, rfl, by omega, by omega, HO6.out⟩
          case measure => simp [intOf]; omega
        · have hE : akE se lf = 0 := by unfold akE; rw [if_neg hA, if_neg hB]
          rw [hE, if_neg hA, if_neg (by decide)]
          rintro _ w5 ⟨ix2, rfl, h5⟩
          have HO5 := Lib.hid h5
          have hepi : ep = 3145728 + ss := HEP.out
          have HI9 : ((3145728 + ss : Nat) : Int) = (ep : Int) := by omega
          have HI := Lib.hid HI9
          clear h5 HAK HO hE hepi HI9
          have HEC := Lib.hid (oa_epoch HO5.out (by omega))
          rw [HI.out] at HEC
          by_cases h0 : 0 < se
          · have h00 : ¬ se < lf := fun h => hB ⟨h0, h⟩
            have p3 : decide (0 < se) = true := decide_eq_true h0
            have p4 : decide (se < lf) = false := decide_eq_false h00
            have p5 : decide ((0 : Int) < (se : Int)) = true := decide_eq_true (by omega)
            have p6 : decide ((se : Int) < (lf : Int)) = false := decide_eq_false (by omega)
            clear hB
            go_wp2_with fail
            refine HEC.out.mono ?_
            rintro _ w6 ⟨rfl, h6⟩
            have HO6 := Lib.hid h6
            clear h6 HEC HO5
            go_wp2
            go_roundw
            case rel => exact ⟨i + 1, lf, ss, by omega, by go_num, rfl, rfl, by omega, by omega, HO6.out⟩
            case measure => simp [intOf]; omega
          · have p3 : decide (0 < se) = false := decide_eq_false h0
            have p5 : decide ((0 : Int) < (se : Int)) = false := decide_eq_false (by omega)
            clear hB
            go_wp2_with fail
            refine HEC.out.mono ?_
            rintro _ w6 ⟨rfl, h6⟩
            have HO6 := Lib.hid h6
            clear h6 HEC HO5
            go_wp2
            go_roundw
            case rel => exact ⟨i + 1, lf, ss, by omega, by go_num, rfl, rfl, by omega, by omega, HO6.out⟩
            case measure => simp [intOf]; omega
    · obtain rfl : i = n := by omega
      have q1 : decide ((i : Int) < (i : Int)) = false := decide_eq_false (by omega)
      have q2 : decide (i < i) = false := decide_eq_false (by omega)
      have HBW := Lib.hid (HB.out.trans (HO.out.bl.mono HB.out.size))
      go_wp2
      go_ret
      exact ⟨rfl, HBW.out⟩
end sessAcks
end Go.Proofs.Ytocdhnlffemnhaa
