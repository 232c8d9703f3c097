/- The walk of watchfirelaw02.CrcBits. -/
import Derived.Test.YtbadohcphadjfabCrcAwake
import Derived.Test.YtbadohcphadjfabCrcUnseal
import Derived.Test.YtbadohcphadjfabCrcBurst
import Derived.StillTailTactics
import Derived.Laws.OwnMore
namespace Go.Proofs.Ytbadohcphadjfab.crcBits
open Go.RowKit Go.Proofs.Ytbadohcphadjfab

theorem Tab_far {w : World} {g d s b : Nat} (h : Tab w g d s b) {q j : Nat} (hq : q ≠ g) (u : Value) : Tab (w.setCell ⟨q, j, none⟩ u) g d s b := by
  have far : ∀ o, (w.setCell ⟨q, j, none⟩ u).cell? ⟨g, o, none⟩ = w.cell? ⟨g, o, none⟩ := fun o => World.cell?_setCell_other w ⟨q, j, none⟩ ⟨g, o, none⟩ u (by intro e; injection e with e; exact hq e)
  exact
    { lt := by simpa using h.lt
      c0 := (far 0).trans h.c0
      c1 := (far 1).trans h.c1
      tab := fun j hj => by
        obtain ⟨x, hx, hx2⟩ := h.tab j hj
        exact ⟨x, (far _).trans hx, hx2⟩
      sums := (far 259).trans h.sums
      bytes := (far 260).trans h.bytes
      fz := fun o => by simpa using h.fz o }

theorem cellsB_set (m : List Nat) (q v : Nat) : cellsB (m.set q v) = (cellsB m).set q (.int .u8 v) := by
  simp [cellsB, encB, List.map_set]
theorem okB_set {m : List Nat} (h : OkB m) {q v : Nat} (hv : v < 256) : OkB (m.set q v) := fun x hx => by
  rcases List.mem_or_eq_of_mem_set hx with h1 | rfl
  · exact h x h1
  · exact hv
theorem shl8 (e : Nat) (h : e < 8) : IntKind.u8.wrap ((2 : Int) ^ e) = ((2 ^ e : Nat) : Int) := by
  match e, h with
  | 0, _ => rfl
  | 1, _ => rfl
  | 2, _ => rfl
  | 3, _ => rfl
  | 4, _ => rfl
  | 5, _ => rfl
  | 6, _ => rfl
  | 7, _ => rfl

set_option maxRecDepth 100000 in
set_option maxHeartbeats 2000000 in
theorem walk (A : Option Addr) (n c : Nat) (l : List Nat) (at_ turn : Nat) (ht : turn < 4294967296) (hat : at_ < 65536) (w : World) (hn : n = l.length) (hm : n ≤ maxLen) (hr : RdB w w.heap.size A l) (hok : OkB l) :
    Calls Try.prog 5 #[.slice A n c, .int .u16 at_, .int .u32 turn] w fun e w' => e = .returned (.bool true) ∧ Below w.heap.size w w' := by
  have Ha := Lib.hid cawake_any
  have Hn := Lib.hid hn
  have Hr := Lib.hid hr
  have Hok := Lib.hid hok
  clear hn hr hok
  unfold maxLen at hm
  by_cases h200 : 200 < n
  · have hb1 : decide ((200 : Int) < (n : Int)) = true := decide_eq_true (by omega)
    go_enter Try.func5, Try.ntmps5
    go_wp2_with fail
    refine (Ha.out _).mono ?_
    rintro e w1 ⟨rfl, hb1⟩
    go_wp2
    go_ret
    exact ⟨rfl, hb1⟩
  · have hb1 : decide ((200 : Int) < (n : Int)) = false := decide_eq_false (by omega)
    go_enter Try.func5, Try.ntmps5
    go_wp2_with fail
    refine (Ha.out _).mono ?_
    rintro e w1 ⟨rfl, hw1⟩
    have hge1 := hw1.size
    go_wp2_with fail
    refine (new_any w1).mono ?_
    rintro e w2 ⟨rfl, hw2, hsz2, hT2⟩
    have Hsz2 := Lib.hid hsz2
    have HT2 := Lib.hid hT2
    have hbw2 := hw1.trans (hw2.mono hge1)
    have hge2 := hbw2.size
    clear hsz2 hT2 hw2
    have Hr2 := Lib.hid (Hr.out.below hbw2)
    have Hoff : Hid (Off A w1.heap.size l) := fun h0 a ha => by
      obtain ⟨b, o, e, hb, _⟩ := Hr.out h0
      rw [e] at ha; cases ha; show b ≠ w1.heap.size; omega
    have hseal := seal_any w1.heap.size 0 0 0 (by decide) A n c l w.heap.size w2 HT2.out Hn.out (by omega) (by decide) (by omega) Hr2.out hge2 Hok.out Hoff.out
    have Hse := Lib.hid hseal
    clear hseal
    go_wp2_with fail
    refine Hse.out.mono ?_
    rintro e w3 ⟨v, rfl, hown, ht3, hT3⟩
    obtain ⟨A3, c3, rfl⟩ := ownB_slice hown
    obtain ⟨gx, cap, hv, hbx, hltx⟩ := hown.form (by omega)
    obtain ⟨rfl, rfl⟩ : A3 = some ⟨gx, 0, none⟩ ∧ c3 = cap := by injection hv with h1 _ h3; exact ⟨h1, h3⟩
    clear hv
    have hgx : gx ≠ w1.heap.size := by have := Hsz2.out; omega
    have hbw3 : Below w.heap.size w w3 := hbw2.grown ht3.grown hge2 (fun k hk => by cases hk; exact hge1)
    have hge3 := ht3.grown.size
    have Hown3 := Lib.hid (ownB_mono (base' := w.heap.size) hown hge2)
    have HT3 := Lib.hid hT3
    have Hreg : Hid (reg full (l ++ four (sumN l)) = opened) := sealed_opens Hok.out
    have Hokx : Hid (OkB (l ++ four (sumN l))) := Hok.out.append (okB_four _)
    have Hlen : Hid ((l ++ four (sumN l)).length = n + 4) := by show _ = _; rw [List.length_append, ← Hn.out]; rfl
    clear hown ht3 hT3 Hse
    generalize l ++ four (sumN l) = xs at *
    have hz0 : 0 ≤ (at_ : Int) % (8 * ((n : Int) + 4)) := Int.emod_nonneg _ (by omega)
    have hz1 : (at_ : Int) % (8 * ((n : Int) + 4)) < 8 * ((n : Int) + 4) := Int.emod_lt_of_pos _ (by omega)
    go_wp2
    generalize (at_ : Int) % (8 * ((n : Int) + 4)) = z at *
    obtain ⟨f, rfl⟩ := Int.eq_ofNat_of_zero_le hz0
    go_loopw [10, 29] (fun ch i wr => ∃ k : Nat, k ≤ 32 ∧ i = .int .i64 k ∧ ch = .bool (mask turn (8 * (n + 4) - f) k != 0) ∧ ∃ m : List Nat, Hid (reg full m = reg full xs ^^^ stepN (8 * (n + 4) - f) (mask turn (8 * (n + 4) - f) k)) ∧ Hid (m.length = n + 4) ∧ Hid (OkB m) ∧ Hid (wr.ownsRow w.heap.size 5 1 (.slice (some ⟨gx, 0, none⟩) (n + 4) c3) (n + 4) (cellsB m)) ∧ Hid (Tab wr w1.heap.size 1 1 n) ∧ Below w.heap.size w wr) (fun _ i _ => 32 - (intOf i).toNat)
    case atStart => exact ⟨0, by omega, rfl, rfl, xs, by show _ = _; rw [mask, stepN_zero, Nat.xor_zero], Hlen.out, Hokx.out, Hown3.out, by have h := HT3.out; rwa [Nat.zero_add, Nat.zero_add] at h, hbw3⟩
    case round =>
      obtain ⟨k, hk, rfl, rfl, m, Hm, Hml, Hmo, Hmw, HmT, hbw⟩ := hrel
      by_cases hk32 : k < 32
      · have hdiv : ((turn / 2 ^ k : Nat) : Int) = (turn : Int) / 2 ^ k := by push_cast; rfl
        have hband := band1 (turn / 2 ^ k) (Nat.lt_of_le_of_lt (Nat.div_le_self _ _) ht)
        rw [hdiv] at hband
        clear hdiv
        by_cases hbit : turn / 2 ^ k % 2 = 1
        · have hb1 : bits .and .u32 ((turn : Int) / 2 ^ k) 1 = 1 := by rw [hband, hbit]; rfl
          have hb2 : (bits .and .u32 ((turn : Int) / 2 ^ k) 1 == 1) = true := by rw [hb1]; rfl
          have Hbit := Lib.hid hbit
          clear hband hbit
          by_cases hlim : f + k < 8 * (n + 4)
          · have hj : (f + k) / 8 < n + 4 := by omega
            obtain ⟨q, hq⟩ : ∃ q, (f + k) / 8 = q := ⟨_, rfl⟩
            obtain ⟨e, he⟩ : ∃ e, (f + k) % 8 = e := ⟨_, rfl⟩
            obtain ⟨cc, hcc⟩ : ∃ cc, m[q]? = some cc := ⟨_, List.getElem?_eq_getElem (by have := Hml.out; omega)⟩
            have hcell : wr.cell? ⟨gx, q, none⟩ = some (.int .u8 cc) := by
              have h := Hmw.out.cells (g := gx) rfl _ _ (cellsB_get hcc)
              rw [Addr.add_lit, Nat.zero_add] at h
              exact h
            have hfz : wr.frozen? ⟨gx, q, none⟩ = false := Hmw.out.frozenAt _
            have hc256 : cc < 256 := Hmo.out.at_ hcc
            have hw1 : IntKind.i64.wrap ((f : Int) + (k : Int)) = (f : Int) + k := by rw [IntKind.wrap_i64]; omega
            have hw2 : IntKind.i64.wrap (((f : Int) + (k : Int)).tdiv 8) = (q : Int) := by
              rw [show ((f : Int) + (k : Int)).tdiv 8 = (q : Int) by rw [← hq, show (f : Int) + (k : Int) = ((f + k : Nat) : Int) by omega]; rfl, IntKind.wrap_i64]; omega
            have hw3 : ((f : Int) + (k : Int)).tmod 8 = (e : Int) := by rw [← he, show (f : Int) + (k : Int) = ((f + k : Nat) : Int) by omega]; rfl
            have hq0 : (0 : Int) ≤ (q : Int) := Int.natCast_nonneg _
            have hq1 : (q : Int) < (n : Int) + 4 := by omega
            have hq2 : (q : Int) < ((n + 4 : Nat) : Int) := by omega
            have he0 : (0 : Int) ≤ (e : Int) := Int.natCast_nonneg _
            have he1 : (e : Int) < 8 := by omega
            have hx2 : bits .xor .u8 (cc : Int) (IntKind.u8.wrap (2 ^ e)) = ((cc ^^^ 2 ^ e : Nat) : Int) := by
              have h2e : 2 ^ e < 256 := Nat.pow_lt_pow_right (n := 8) (by decide) (by omega)
              rw [shl8 e (by omega)]
              exact u8_xor_nat cc (2 ^ e) hc256 h2e
            have Hcc := Lib.hid hcc
            have Hq := Lib.hid hq
            have He := Lib.hid he
            clear hcc hq he
            go_wp2
            refine wp_region_still_tail 14 (by kernel_rfl) (by kernel_rfl) ?_
            simp only [List.take_succ_cons, List.take_zero, List.drop_succ_cons, List.drop_zero]
            repeat still_step
            refine wpStill_nil ?_
            change wpList _ _ _ _ _ wr.drew
            have hcell2 : wr.drew.cell? ⟨gx, q, none⟩ = some (.int .u8 cc) := (World.cell?_drew _ _).trans hcell
            have hfz2 : wr.drew.frozen? ⟨gx, q, none⟩ = false := (World.frozen?_drew _ _).trans hfz
            have Hmw2 := Lib.hid (Hmw.out.drew)
            have HmT2 := Lib.hid (HmT.out.drew)
            have hbw2' : Below w.heap.size w wr.drew := hbw.drew
            clear hcell hfz hw1 hw2 hw3
            generalize wr.drew = w4 at *
            go_wp2
            refine ⟨⟨k + 1, by omega, by go_num, ?_, m.set q (cc ^^^ 2 ^ e), ?_, ?_, ?_, ?_, ?_, ?_⟩, by simp [intOf]; omega⟩
            · have hp := Nat.two_pow_pos k
              rw [mask, if_pos ⟨Hbit.out, by omega⟩]
              congr 1
              exact (bne_iff_ne.2 (by omega)).symm
            · have h := burst_step Hml.out hlim (by rw [Hq.out]; exact Hcc.out) Hm.out Hbit.out
              rw [Hq.out, He.out] at h
              exact h
            · show _ = _
              rw [List.length_set]; exact Hml.out
            · exact okB_set Hmo.out (Nat.xor_lt_two_pow (n := 8) (by omega) (Nat.pow_lt_pow_right (n := 8) (by decide) (by omega)))
            · have h := (Hmw2.out.stored q (.int .u8 (cc ^^^ 2 ^ e : Nat))).1
              rw [cellsB_set]
              exact h
            · exact Tab_far HmT2.out hgx _
            · exact hbw2'.setCell (p := ⟨gx, q, none⟩) (by show w.heap.size ≤ gx; omega) _
          · have Hskip : Hid (reg full m = reg full xs ^^^ stepN (8 * (n + 4) - f) (mask turn (8 * (n + 4) - f) (k + 1))) := burst_skip Hm.out fun h => hlim h.2
            have Hmask : Hid (mask turn (8 * (n + 4) - f) (k + 1) = mask turn (8 * (n + 4) - f) k) := by show _ = _; rw [mask, if_neg (fun h => hlim (by omega))]
            go_wp2
            refine ⟨⟨k + 1, by omega, by go_num, by rw [Hmask.out], m, Hskip.out, Hml, Hmo, Hmw, HmT, hbw⟩, by simp [intOf]; omega⟩
        · have hb1 : ¬ bits .and .u32 ((turn : Int) / 2 ^ k) 1 = 1 := by rw [hband]; omega
          have hb2 : (bits .and .u32 ((turn : Int) / 2 ^ k) 1 == 1) = false := by rw [beq_eq_false_iff_ne]; exact hb1
          have Hskip : Hid (reg full m = reg full xs ^^^ stepN (8 * (n + 4) - f) (mask turn (8 * (n + 4) - f) (k + 1))) := burst_skip Hm.out fun h => hbit h.1
          have Hmask : Hid (mask turn (8 * (n + 4) - f) (k + 1) = mask turn (8 * (n + 4) - f) k) := by show _ = _; rw [mask, if_neg (fun h => hbit h.1)]
          clear hband hbit
          go_wp2
          refine ⟨⟨k + 1, by omega, by go_num, by rw [Hmask.out], m, Hskip.out, Hml, Hmo, Hmw, HmT, hbw⟩, by simp [intOf]; omega⟩
      · obtain rfl : k = 32 := by omega
        have hcap : n + 4 ≤ c3 := by
          rcases Hmw.out.2 with ⟨e, _⟩ | ⟨g', cap', cur, e, _, _, hnc, _⟩
          · cases e
          · injection e with _ _ e3; omega
        have hlt3 : (mask turn (8 * (n + 4) - f) 32) < 4294967296 := mask_lt _ _ 32
        obtain ⟨x0, x1, x2, x3, hx⟩ : ∃ x0 x1 x2 x3, m.drop n = [x0, x1, x2, x3] := by
          have h4 : (m.drop n).length = 4 := by rw [List.length_drop, Hml.out]; omega
          match m.drop n, h4 with
          | [a, b, c, d], _ => exact ⟨a, b, c, d, rfl⟩
        have hsplit : m.take n ++ [x0, x1, x2, x3] = m := by rw [← hx, List.take_append_drop]
        have hok4 : OkB [x0, x1, x2, x3] := fun x hxm => Hmo.out x (by rw [← hsplit]; exact List.mem_append_right _ hxm)
        have hiff := burst_opens (l := m.take n) (e := [x0, x1, x2, x3]) (n := takeN [x0, x1, x2, x3]) (d := mask turn (8 * (n + 4) - f) 32) (j := 8 * (n + 4) - f) (Hmo.out.take n) (takeN_lt rfl hok4) (four_takeN rfl hok4).symm hlt3 (by rw [hsplit, Hm.out, Hreg.out])
        have hrd := RdB.of_own Hmw.out
        have Hop := Lib.hid (open_any w1.heap.size 1 1 n (by decide) gx 0 n c3 (m.take n) x0 x1 x2 x3 (mask turn (8 * (n + 4) - f) 32 == 0) wr.heap.size wr HmT.out (by rw [List.length_take, Hml.out]; omega) (by omega) hcap (by decide) (by omega) (by rw [hsplit]; exact hrd) (Nat.le_refl _) (Hmo.out.take n) hok4 hgx (by rw [Bool.eq_iff_iff, beq_iff_eq, beq_iff_eq]; exact hiff))
        clear hiff hrd hsplit hx hlt3
        generalize mask turn (8 * (n + 4) - f) 32 = M at *
        have hfin : ((M == 0) != (M != 0)) = true := by cases h : (M == 0) <;> simp [bne, h]
        generalize (M != 0) = b2 at *
        have Hfin := Lib.hid hfin
        clear hfin
        go_wp2_with fail
        refine Hop.out.mono ?_
        rintro e w5 ⟨v, rfl, _, ht5, _⟩
        have hb5 : Below w.heap.size w w5 := hbw.grown ht5.grown hbw.size (fun k hk => by cases hk; exact hge1)
        go_wp2
        go_ret
        exact ⟨by show Ending.returned (.bool ((M == 0) != b2)) = _; rw [Hfin.out], hb5⟩
end Go.Proofs.Ytbadohcphadjfab.crcBits
