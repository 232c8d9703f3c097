/- Layer 7: JournalScans: records laid one behind the other. -/
import Derived.Test.YtheojokfgndheaaJlRscan
import Derived.Test.YtheojokfgndheaaJlAwake
import Derived.Test.YtheojokfgndheaaJlSpoil
import Derived.Test.YtheojokfgndheaaDkTorn
import Derived.Test.YtheojokfgndheaaJlFive
import Derived.Test.YtheojokfgndheaaDkArgs
import Derived.Test.YtheojokfgndheaaJournalLong
namespace Go.Proofs.Ytheojokfgndheaa
open Go.RowKit

/-- behind k records: the table, and the row of their bytes -/
structure LaidB (w wx : World) (B g k : Nat) (v : Value) (bl : List Nat) : Prop where
  own : wx.ownsRow B 5 1 v bl.length (cellsB bl)
  ok : OkB bl
  len : bl.length ≤ 108 * k
  tab : ∃ d s t, d ≤ 1 ∧ s ≤ k ∧ t ≤ 104 * k ∧ Tab wx g d s t
  gB : g < B
  hB : B ≤ wx.heap.size
  wg : w.heap.size ≤ g
  bl : Below w.heap.size w wx
/-- the two rows of bytes, and the table -/
structure TwoB (w wx : World) (B Bw g m : Nat) (Av : Option Addr) (cv : Nat) (bl2 : List Nat) (Aw : Option Addr) (cw : Nat) (bl : List Nat) : Prop where
  v : wx.ownsRow B 5 1 (.slice Av m cv) m (cellsB bl2)
  w_ : wx.ownsRow Bw 5 1 (.slice Aw m cw) m (cellsB bl)
  lt : ∀ a, Av = some a → a.block < Bw
  ok2 : OkB bl2
  ok : OkB bl
  tab : ∃ d s t, d ≤ 1 ∧ s ≤ 20 ∧ t ≤ 3000 ∧ Tab wx g d s t
  gB : g < B
  hB : B ≤ wx.heap.size
  wg : w.heap.size ≤ g
  bl : Below w.heap.size w wx
namespace journalScans
set_option maxRecDepth 100000 in
set_option maxHeartbeats 2000000 in
theorem walk (A : Option Addr) (n c : Nat) (RA : Option Addr) (rn rc : Nat) (rl : List Nat) (cut at_ turn : Nat) (w : World) (hr : RdW w w.heap.size A n) (hnm : n ≤ maxLen) (hrn : rn = rl.length) (hrr : RdB w w.heap.size RA rl) (hro : OkB rl) (hrnil : RA = none → rn = 0) (hrc : rn ≤ rc) (hcut : cut < 65536) (hat : at_ < 65536) (hturn : turn < 256) :
    Calls Try.prog 4 #[.slice A n c, .slice RA rn rc, .int .u16 cut, .int .u16 at_, .int .u8 turn] w fun e w' => e = .returned (.bool true) ∧ Below w.heap.size w w' := by
  obtain ⟨i0, hi0, hz0, hz1, hz2⟩ := info_parts Try.infoB
  have HR := Lib.hid hr
  have HRn := Lib.hid hrn
  have HRr := Lib.hid hrr
  have HRo := Lib.hid hro
  have HRc := Lib.hid hrc
  have HRnil := Lib.hid hrnil
  have hnm2 : (n : Int) ≤ 9223372036854775807 := by unfold maxLen at hnm; omega
  clear hr hrn hrr hro hnm hrc hrnil
  go_enter Try.func4, Try.ntmps4
  go_wp2_with fail
  refine (awake7_any w).mono ?_
  rintro e w1 ⟨rfl, hb⟩
  have HB := Lib.hid hb
  clear hb
  by_cases h1 : 20 < n
  · have d1 : decide ((20 : Int) < (n : Int)) = true := decide_eq_true (by omega)
    go_wp2
    go_ret
    exact ⟨rfl, HB.out⟩
  · have d1 : decide ((20 : Int) < (n : Int)) = false := decide_eq_false (by omega)
    by_cases h2 : 200 < rn
    · have d2 : decide ((200 : Int) < (rn : Int)) = true := decide_eq_true (by omega)
      go_wp2
      go_ret
      exact ⟨rfl, HB.out⟩
    · have d2 : decide ((200 : Int) < (rn : Int)) = false := decide_eq_false (by omega)
      go_wp2_with fail
      refine (cnew_any _).mono ?_
      rintro e w2 ⟨rfl, hb, hz, hT⟩
      obtain ⟨g, hg⟩ : ∃ g, g = w1.heap.size := ⟨_, rfl⟩
      rw [← hg] at hT hz
      rw [← hg]
      have HL0 : Hid (LaidB w w2 w2.heap.size g 0 (.slice none 0 0) []) := ⟨World.ownsRow_nil _ _ _ _, OkB.nil, Nat.le_refl _, ⟨0, 0, 0, by decide, Nat.le_refl _, Nat.le_refl _, hT⟩, by omega, Nat.le_refl _, by rw [hg]; exact HB.out.size, HB.out.trans (hb.mono HB.out.size)⟩
      clear hb hz hT hg
      go_wp2
      go_loopw [12, 41] (fun bv iv wx => ∃ (k : Nat) (bl : List Nat), k ≤ n ∧ iv = .int .i64 k ∧ Hid (LaidB w wx w2.heap.size g k bv bl)) (fun _ iv _ => n - (intOf iv).toNat)
      case atStart => exact ⟨0, [], Nat.zero_le _, rfl, HL0.out⟩
      case round =>
        obtain ⟨k, bl, hk, rfl, HL⟩ := hrel
        by_cases hlt : k < n
        · obtain ⟨b, o, rfl, hbl, hrow⟩ := HR.out (by omega)
          obtain ⟨Ar, nr, cr, x, hcx, hnr, _, hnil, hrd, hox⟩ := hrow k hlt
          subst hnr
          have x0 := (HL.out.bl.cell (p := ⟨b, o + k, none⟩) hbl).trans hcx
          have Hrd : Hid (∀ W, Below w.heap.size w W → RdB W w.heap.size Ar x) := fun W hW => hrd.below hW
          have Hox := Lib.hid hox
          have Hoff : Hid (Off Ar g x) := fun h0 a ha e => by
            obtain ⟨b', o', e', hb', _⟩ := hrd h0
            rw [ha] at e'
            injection e' with e'
            rw [e'] at e
            have : b' = g := e
            have := HL.out.wg
            omega
          clear hcx hrd hox hrow
          by_cases h100 : 100 < x.length
          · have d3 : decide ((100 : Int) < (x.length : Int)) = true := decide_eq_true (by omega)
            go_wp2
            go_ret
            exact ⟨rfl, HL.out.bl⟩
          · have d3 : decide ((100 : Int) < (x.length : Int)) = false := decide_eq_false (by omega)
            obtain ⟨d, s, t, hd, hs, ht, hT⟩ := HL.out.tab
            have HT := Lib.hid hT
            obtain ⟨Av, cv, rfl⟩ := ownB_slice HL.out.own
            clear hT
            go_wp2_with fail
            refine (jlay_any g d s t hd Ar x.length cr x w.heap.size wr HT.out rfl (by omega) (by omega) (by omega) (Hrd.out _ HL.out.bl) HL.out.bl.size Hox.out Hoff.out).mono ?_
            rintro e w4 ⟨vy, rfl, hoy, hty, hTy⟩
            obtain ⟨Ay, cy, rfl⟩ := ownB_slice hoy
            obtain ⟨y1, y2, y3⟩ := rdB_of_own hoy
            have HcvY : Hid (∀ W, Below w4.heap.size w4 W → (convert 30 9 (.slice Ay (x.length + 8) cy)).run Try.prog W = .ok (.string (strB (laidR x))) W) := fun W hW => conv_any (w := W) (y1.below hW) y2 y3
            have Hy1 := Lib.hid y1
            have Hy2 := Lib.hid y2
            clear y1 y2 y3
            have Hsz4 := Lib.hid hty.grown.size
            have HB4 : Hid (Below w.heap.size w w4) := HL.out.bl.trans ⟨hty.grown.os, hty.grown.tape, hty.grown.output, hty.grown.size, fun k hk => hty.grown.block k (Nat.lt_of_lt_of_le hk HL.out.bl.size) (fun e => by injection e with e; have := HL.out.wg; omega)⟩
            have HO4 := Lib.hid (hty.only.own HL.out.own (fun i hi e => by have := (HL.out.own.lt i hi).1; have := HL.out.gB; omega))
            have HTy := Lib.hid hTy
            clear hty hTy hoy
            go_upto_region 13 with fail
            refine wp_region_noPanic ?_
            refine wp_region_held_drew (S := fun W => Below w4.heap.size w4 W) (by kernel_rfl) ?_ (fun hHeld => ?_)
            · exact (Below.refl _ _).drew
            try simp only [heldPut, List.set]
            refine heldTake (i := 0) (v := ?_) rfl (by kernel_rfl) (by kernel_rfl) (by kernel_rfl) (fun _ _ _ h => h) (Or.inl ⟨by rfl, ?_⟩) (by assumption) ?_
            rotate_left
            · (intro W hSw; (try dsimp only at hSw); have fy := HcvY.out W hSw; go_simp; try with_reducible rfl)
            try simp only [heldPut, List.set]
            refine heldTake (i := 1) (v := ?_) rfl (by kernel_rfl) (by kernel_rfl) (by kernel_rfl) (fun _ _ _ h => h) (Or.inl ⟨by rfl, ?_⟩) (by assumption) ?_
            rotate_left
            · (intro W hSw; (try dsimp only at hSw); have fy := HcvY.out W hSw; go_simp; try with_reducible rfl)
            try simp only [heldPut, List.set]
            refine heldTake (i := 2) (v := ?_) rfl (by kernel_rfl) (by kernel_rfl) (by kernel_rfl) (fun _ _ _ h => h) (Or.inl ⟨by rfl, ?_⟩) (by assumption) ?_
            rotate_left
            · (intro W hSw; (try dsimp only at hSw); have fy := HcvY.out W hSw; go_simp; try with_reducible rfl)
            try simp only [heldPut, List.set]
            refine heldTake (i := 3) (v := ?_) rfl (by kernel_rfl) (by kernel_rfl) (by kernel_rfl) (fun _ _ _ h => h) (Or.inl ⟨by rfl, ?_⟩) (by assumption) ?_
            rotate_left
            · (intro W hSw; (try dsimp only at hSw); have fy := HcvY.out W hSw; go_simp; try with_reducible rfl)
            try simp only [heldPut, List.set]
            refine heldTake (i := 4) (v := ?_) rfl (by kernel_rfl) (by kernel_rfl) (by kernel_rfl) (fun _ _ _ h => h) (Or.inl ⟨by rfl, ?_⟩) (by assumption) ?_
            rotate_left
            · (intro W hSw; (try dsimp only at hSw); have fy := HcvY.out W hSw; go_simp; try with_reducible rfl)
            try simp only [heldPut, List.set]
            refine heldTake (i := 5) (v := ?_) rfl (by kernel_rfl) (by kernel_rfl) (by kernel_rfl) (fun _ _ _ h => h) (Or.inl ⟨by rfl, ?_⟩) (by assumption) ?_
            rotate_left
            · (intro W hSw; (try dsimp only at hSw); have fy := HcvY.out W hSw; go_simp; try with_reducible rfl)
            try simp only [heldPut, List.set]
            refine heldOne (i := 6) rfl (by kernel_rfl) (fun K hK => ?_)
            go_simp
            refine (rlay_any Ar x.length cr x w.heap.size _ rfl (by omega) (Hrd.out _ (HB4.out.trans (hHeld.mono HB4.out.size))) (Nat.le_trans HB4.out.size hHeld.size) Hox.out).mono ?_
            rintro e w5 ⟨v5, rfl, ho5, hb5⟩
            obtain ⟨A5, c5, rfl⟩ := ownB_slice ho5
            have ho5' : w5.ownsRow w4.heap.size 5 1 (.slice A5 (x.length + 8) c5) (x.length + 8) (cellsB (laidR x)) := ownB_mono ho5 hHeld.size
            obtain ⟨z1, z2, z3⟩ := rdB_of_own ho5'
            have hcv5 := conv_any (w := w5) (c := c5) z1 z2 z3
            have HB45 := Lib.hid (hHeld.trans (hb5.mono hHeld.size))
            clear ho5 ho5' hb5 z1 z2 z3
            go_wp2_with fail
            refine hK.out _ _ ?_ (fun hHeld => ?_)
            · exact HB45.out
            clear hK K
            try simp only [heldPut, List.set]
            refine heldOne (i := 7) rfl (by kernel_rfl) (fun K hK => ?_)
            go_simp
            refine hK.out _ _ ?_ (fun hHeld => ?_)
            · exact hHeld
            clear hK K
            try simp only [heldPut, List.set]
            refine heldTake (i := 8) (v := ?_) rfl (by kernel_rfl) (by kernel_rfl) (by kernel_rfl) (fun _ _ _ h => h) (Or.inl ⟨by rfl, ?_⟩) (by assumption) ?_
            rotate_left
            · (intro W hSw; (try dsimp only at hSw);  go_simp; try with_reducible rfl)
            try simp only [heldPut, List.set]
            refine heldTake (i := 9) (v := ?_) rfl (by kernel_rfl) (by kernel_rfl) (by kernel_rfl) (fun _ _ _ h => h) (Or.inl ⟨by rfl, ?_⟩) (by assumption) ?_
            rotate_left
            · (intro W hSw; (try dsimp only at hSw);  go_simp; try with_reducible rfl)
            try simp only [heldPut, List.set]
            refine wpAnyH_done (by kernel_rfl) ?_ _
            refine NoPanic.normal ?_
            have HO5 := Lib.hid (ownB_below HO4.out HB45.out)
            have HT5 := Lib.hid (HTy.out.below HB45.out)
            have HB5 := Lib.hid (HB4.out.trans (HB45.out.mono HB4.out.size))
            have Hsy : Hid (Src w5 Ay (x.length + 8) 1 (cellsB (laidR x))) := src_of_rdB (Hy1.out.below HB45.out) Hy2.out
            have hBw : w2.heap.size ≤ w5.heap.size := Nat.le_trans HL.out.hB (Nat.le_trans Hsz4.out HB45.out.size)
            go_wp2_with (at_builtin; refine wpList_append_src (base := w2.heap.size) rfl _ _ rfl Try.underlying30 hi0 hz0 hz1 hz2 rfl (by decide) rfl HO5.out rfl Hsy.out (cellsB_one _) (by have := HL.out.len; unfold maxLen; omega) (by have := HL.out.len; omega) hBw ?_; intro v6 w6 ho6 hg6 _; replace ho6 := Lib.hid ho6; replace hg6 := Lib.hid hg6)
            have HL6 : Hid (LaidB w w6 w2.heap.size g (k + 1) v6 (bl ++ laidR x)) := ⟨by
                have := ho6.out
                rw [← cellsB_append, show bl.length + (x.length + 8) = (bl ++ laidR x).length by rw [List.length_append, laidR_length]] at this
                exact this, HL.out.ok.append (laidR_ok Hox.out), by rw [List.length_append, laidR_length]; have := HL.out.len; omega,
              ⟨1, s + 1, t + 4 + x.length, Nat.le_refl _, by omega, by omega, HT5.out.row hg6.out (fun e => by have := (HL.out.own.lt _ e).1; have := HL.out.gB; omega)⟩, HL.out.gB, Nat.le_trans hBw hg6.out.size, HL.out.wg,
              HB5.out.grown hg6.out HB5.out.size (fun i hi => by have := (HL.out.own.lt i hi).1; have := HL.out.gB; have := HL.out.wg; omega)⟩
            go_roundw
            case rel => exact ⟨k + 1, bl ++ laidR x, by omega, by go_num, HL6.out⟩
            case measure => simp [intOf]; omega
        · obtain rfl : k = n := by omega
          have hd0 : decide (k < k) = false := decide_eq_false (Nat.lt_irrefl _)
          obtain ⟨Av, cv, hve⟩ := ownB_slice HL.out.own
          subst hve
          obtain ⟨m, hm⟩ : ∃ m, m = bl.length := ⟨_, rfl⟩
          have hm2 : m ≤ 2160 := by rw [hm]; have := HL.out.len; omega
          rw [← hm]
          have hown : wr.ownsRow w2.heap.size 5 1 (.slice Av m cv) m (cellsB bl) := by rw [hm]; exact HL.out.own
          have HO := Lib.hid hown
          have Hm := Lib.hid hm
          obtain ⟨v1, v2, v3⟩ := rdB_of_own hown
          have hbe : Below wr.heap.size wr (wr.alloc (.cells #[] 5)) := (Below.refl _ _).alloc (Nat.le_refl _) _
          have Hsv : Hid (Src (wr.alloc (.cells #[] 5)) Av m 1 (cellsB bl)) := src_of_rdB (v1.below hbe) v2
          have Hbe := Lib.hid hbe
          have hcap := own_cap7 hown
          obtain ⟨p, hp⟩ : ∃ p, p = cut % (m + 1) := ⟨_, rfl⟩
          have hpm : p ≤ m := by rw [hp]; have := Nat.mod_lt cut (show 0 < m + 1 by omega); omega
          have hwm : IntKind.i64.wrap ((m : Int) + 1) = (m : Int) + 1 := by rw [IntKind.wrap_i64]; omega
          have hwc : IntKind.i64.wrap (cut : Int) = cut := by rw [IntKind.wrap_i64]; omega
          have ht1 : (cut : Int).tmod ((m : Int) + 1) = (p : Int) := by rw [Int.tmod_eq_emod_of_nonneg (by omega), hp]; rfl
          have ht2 : (cut : Int) % ((m : Int) + 1) = (p : Int) := by rw [hp]; rfl
          have hwp : IntKind.i64.wrap (p : Int) = p := by rw [IntKind.wrap_i64]; omega
          have sp := fun W => slB_h Av m cv p (p : Int) rfl (by omega) W
          clear hown hm v1 v2 v3 hbe hp
          go_upto_region 18 with (at_builtin; refine wpList_append_src (base := wr.heap.size) rfl (.tmp 68) (.tmp 69) rfl Try.underlying30 hi0 hz0 hz1 hz2 rfl (by decide) rfl (World.ownsRow_made wr #[] 0 (Nat.le_refl _) (Nat.zero_le _) rfl) rfl Hsv.out (cellsB_one _) (by unfold maxLen; omega) (by omega) (by simp) ?_; intro v7 w7 ho7 hg7 _; obtain ⟨Aw, cw, rfl⟩ := ownB_slice ho7; replace ho7 := Lib.hid ho7; replace hg7 := Lib.hid hg7)
          go_upto_if 81 with fail
          have hb7 : Below wr.heap.size wr w7 := Hbe.out.grown hg7.out Hbe.out.size (fun i hi => by
            have hi : some wr.heap.size = some i := hi
            injection hi with hi
            omega)
          have HT7 : Hid (TwoB w w7 w2.heap.size wr.heap.size g m Av cv bl Aw cw bl) := by
            obtain ⟨d, s, t, h1, h2, h3, h4⟩ := HL.out.tab
            have o7 := ho7.out
            rw [Nat.zero_add] at o7
            exact ⟨ownB_below HO.out hb7, o7, fun a e => by have := (HO.out.lt a.block (by rw [e]; rfl)).2; exact this, HL.out.ok, HL.out.ok, ⟨d, s, t, h1, by omega, by omega, h4.below hb7⟩, HL.out.gB, Nat.le_trans HL.out.hB hb7.size, HL.out.wg, HL.out.bl.trans (hb7.mono HL.out.bl.size)⟩
          clear hb7
          have hget : ∀ i, i < m → bl[i]? = some (bl.getD i 0) := fun i hi => by rw [List.getD_eq_getElem?_getD, List.getElem?_eq_getElem (by rw [← Hm.out]; exact hi)]; rfl
          have Hget := Lib.hid hget
          clear hget
          go_cut [] from 82 to 92 (fun wx => ∃ bl2, Hid (TwoB w wx w2.heap.size wr.heap.size g m Av cv bl2 Aw cw bl))
          case first =>
            by_cases hm0 : 0 < m
            rotate_left
            · go_wp2
              go_meet
              exact ⟨bl, HT7.out⟩
            · obtain ⟨r, cap, hv, hrB, hrl⟩ := HT7.out.v.form (by omega)
              injection hv with hv hv2 hv3
              subst hv
              clear hv2 hv3
              obtain ⟨q, hq⟩ : ∃ q, q = at_ % m := ⟨_, rfl⟩
              have hqm : q < m := by rw [hq]; exact Nat.mod_lt _ (by omega)
              have hwa : IntKind.i64.wrap (at_ : Int) = at_ := by rw [IntKind.wrap_i64]; omega
              have hwq : IntKind.i64.wrap (q : Int) = q := by rw [IntKind.wrap_i64]; omega
              have ha1 : (at_ : Int).tmod (m : Int) = (q : Int) := by rw [Int.tmod_eq_emod_of_nonneg (by omega), hq]; rfl
              have ha2 : (at_ : Int) % (m : Int) = (q : Int) := by rw [hq]; rfl
              have hmne : (m : Int) ≠ 0 := by omega
              obtain ⟨x, hx⟩ : ∃ x, x = bl.getD q 0 := ⟨_, rfl⟩
              have hxq : bl[q]? = some x := by rw [hx]; exact Hget.out q hqm
              have hx256 : x < 256 := HT7.out.ok x (List.mem_iff_getElem?.2 ⟨q, hxq⟩)
              have hcell : w7.cell? ⟨r, q, none⟩ = some (.int .u8 x) := by
                have := HT7.out.v.cells (g := r) rfl q _ (cellsB_get hxq)
                rw [Addr.add_lit, Nat.zero_add] at this
                exact this
              have hfz : w7.frozen? ⟨r, q, none⟩ = false := by
                rcases HT7.out.v.2 with ⟨e1, _⟩ | ⟨g', cap', cur, e1, _, h2, _⟩
                · cases e1
                · injection e1 with e1
                  injection e1 with e1
                  have e1 : r = g' := congrArg Addr.block e1
                  subst e1
                  simp [World.frozen?, h2]
              have hx8 : bits .xor .u8 (x : Int) (turn : Int) = ((x ^^^ turn : Nat) : Int) := u8_xor_nat x turn hx256 hturn
              have Hxq := Lib.hid hxq
              have Hx := Lib.hid hx
              have HgB := Lib.hid HT7.out.gB
              clear hq hx hxq hx256
              go_wp2
              go_meet
              have hX : bl[q]? = some x := Hxq.out
              have hx := Hx.out
              have gr : g < r := Nat.lt_of_lt_of_le HgB.out hrB
              have ho := Only.setCell w7 ⟨r, q, none⟩ (.int .u8 ((x ^^^ turn : Nat))) (T := fun k => k = r) rfl
              obtain ⟨d, s, t, h1, h2, h3, h4⟩ := HT7.out.tab
              have v8 := ownsRow_set HT7.out.v q (.int .u8 ((x ^^^ turn : Nat)))
              have e8 : (cellsB bl).set q (.int .u8 ((x ^^^ turn : Nat))) = cellsB (turnB bl q turn) := by
                unfold turnB cellsB
                rw [← hx, List.map_set]
                rfl
              rw [e8] at v8
              exact ⟨turnB bl q turn, v8, ho.own HT7.out.w_ (fun k hk e => by have := (HT7.out.w_.lt k hk).1; have := HT7.out.lt _ rfl; have e : k = r := e; have : r < wr.heap.size := this; omega),
                HT7.out.lt, turnB_ok HT7.out.ok2 q hturn, HT7.out.ok, ⟨d, s, t, h1, h2, h3, h4.only ho (fun e => by have e : g = r := e; omega)⟩, HT7.out.gB, Nat.le_trans HT7.out.hB ho.size, HT7.out.wg,
                HT7.out.bl.trans (ho.below HT7.out.bl.size (fun k e => by have e : k = r := e; have := HT7.out.wg; omega))⟩
          case rest =>
            obtain ⟨bl2, HT8⟩ := hcut
            obtain ⟨b8, hb8⟩ : ∃ b8, b8 = w2.heap.size := ⟨_, rfl⟩
            have hbe8 : Below wc.heap.size wc (wc.alloc (.cells #[] 5)) := (Below.refl _ _).alloc (Nat.le_refl _) _
            obtain ⟨y1, y2, y3⟩ := rdB_of_own HT8.out.w_
            have Hs1 : Hid (Src (wc.alloc (.cells #[] 5)) Aw m 1 (cellsB bl)) := src_of_rdB (y1.below hbe8) y2
            have Hbe8 := Lib.hid hbe8
            clear hbe8 y1 y2 y3 hb8
            have Hraw : Hid (∀ W, Below wc.heap.size wc W → RdB W wc.heap.size RA rl) := fun W hW => (HRr.out.below (HT8.out.bl.trans (hW.mono HT8.out.bl.size))).more HT8.out.bl.size
            obtain ⟨q5, hq5⟩ : ∃ q5, q5 = m + rn := ⟨_, rfl⟩
            have Hlen : Hid (m + rn = q5) := hq5.symm
            clear hq5
            go_wp2_with (at_builtin; first
              | (have h9 := Ho9.out
                 refine wpList_append_src (base := wc.heap.size) rfl (.tmp 99) (.tmp 100) rfl Try.underlying30 hi0 hz0 hz1 hz2 rfl (by decide) rfl h9 rfl Hs2.out (cellsB_one _) (by unfold maxLen; omega) (by omega) Hb9.out.size ?_
                 clear h9
                 intro v10 w10 ho10 hg10 _
                 rw [Hlen.out] at ho10
                 obtain ⟨A10, c10, rfl⟩ := ownB_slice ho10
                 have Ho10 := Lib.hid ho10
                 have Hb10 : Hid (Below wc.heap.size wc w10) := Hb9.out.grown hg10 Hb9.out.size (fun i hi => (Ho9.out.lt i hi).1)
                 clear ho10 hg10)
              | (refine wpList_append_src (base := wc.heap.size) rfl (.tmp 97) (.tmp 98) rfl Try.underlying30 hi0 hz0 hz1 hz2 rfl (by decide) rfl (World.ownsRow_made wc #[] 0 (Nat.le_refl _) (Nat.zero_le _) rfl) rfl Hs1.out (cellsB_one _) (by unfold maxLen; omega) (by omega) (by simp) ?_
                 intro v9 w9 ho9 hg9 _
                 rw [Nat.zero_add, List.nil_append] at ho9
                 obtain ⟨A9, c9, rfl⟩ := ownB_slice ho9
                 have Ho9 := Lib.hid ho9
                 have Hb9 : Hid (Below wc.heap.size wc w9) := Hbe8.out.grown hg9 Hbe8.out.size (fun i hi => by
                   have hi : some wc.heap.size = some i := hi
                   injection hi with hi
                   omega)
                 have Hs2 : Hid (Src w9 RA rn 1 (cellsB rl)) := src_of_rdB (Hraw.out _ Hb9.out) HRn.out
                 clear ho9 hg9))
            have H5 : Hid (FiveAt (w10.alloc (.cells #[.slice Aw m cw, .slice Av p cv, .slice Av m cv, .slice RA rn rc, .slice A10 q5 c10] 30)) w10.heap.size g) := by
              have hw9 := Hb10.out
              have hm5 : bl.length = m := Hm.out.symm
              have hr5 : rl.length = rn := HRn.out.symm
              have hq5 : q5 = m + rn := Hlen.out.symm
              have gb := HT8.out.gB
              have e1 := HT8.out.hB
              have e2 := HT8.out.wg
              have e3 : w2.heap.size ≤ wr.heap.size := HL.out.hB
              have e4 : g < wc.heap.size := Nat.lt_of_lt_of_le gb e1
              have e5 := hw9.size
              have o1 := ownB_below HT8.out.w_ hw9
              have o2 := ownB_below HT8.out.v hw9
              have o3 := Ho10.out
              rw [← cellsB_append] at o3
              have hraw := (Hraw.out _ hw9).more e5
              exact FiveAt.new _ _ _ _ _ _ (by omega) (El5.own o1 (Nat.le_refl _) (by omega) HT8.out.ok m (Nat.le_refl _) (by omega)) (El5.own o2 (Nat.le_refl _) gb HT8.out.ok2 p hpm (by omega)) (El5.own o2 (Nat.le_refl _) gb HT8.out.ok2 m (Nat.le_refl _) (by omega))
                ⟨RA, rn, rc, rl, rfl, HRn.out, HRc.out, by omega, hraw, HRo.out, fun h0 a ha e => by
                  obtain ⟨b', o', e', hb', _⟩ := HRr.out h0
                  rw [ha] at e'
                  injection e' with e'
                  rw [e'] at e
                  have : b' = g := e
                  omega⟩ (El5.own o3 (Nat.le_refl _) e4 (HT8.out.ok.append HRo.out) q5 (Nat.le_refl _) (by omega))
            have HL5 : Hid (Lp5 w (w10.alloc (.cells #[.slice Aw m cw, .slice Av p cv, .slice Av m cv, .slice RA rn rc, .slice A10 q5 c10] 30)) w10.heap.size g 0) := by
              obtain ⟨d, s, t, h1, h2, h3, h4⟩ := HT8.out.tab
              have hbz : Below w10.heap.size w10 (w10.alloc (.cells #[.slice Aw m cw, .slice Av p cv, .slice Av m cv, .slice RA rn rc, .slice A10 q5 c10] 30)) := (Below.refl _ _).alloc (Nat.le_refl _) _
              have hbc := Hb10.out.trans (hbz.mono Hb10.out.size)
              exact ⟨H5.out, ⟨d, s, t, h1, by omega, by omega, h4.below hbc⟩, HT8.out.wg, HT8.out.bl.trans (hbc.mono HT8.out.bl.size)⟩
            clear H5
            go_loopw [104] (fun iv wx => ∃ k5 : Nat, k5 ≤ 5 ∧ iv = .int .i64 k5 ∧ Hid (Lp5 w wx w10.heap.size g k5)) (fun iv _ => 5 - (intOf iv).toNat)
            case atStart => exact ⟨0, Nat.zero_le _, rfl, HL5.out⟩
            case round =>
              obtain ⟨k5, hk5, rfl, HL6⟩ := hrel
              by_cases hlt5 : k5 < 5
              · obtain ⟨v5, hv5, A5, n5, c5, l5, rfl, hn5, hc5, hm5, hrd5, hok5, hoff5⟩ := HL6.out.five.cell k5 hlt5
                obtain ⟨d, s, t, hd, hs, ht, hT⟩ := HL6.out.tab
                have HT := Lib.hid hT
                have Hn5 := Lib.hid hn5
                have Hrd5 := Lib.hid hrd5
                have Hok5 := Lib.hid hok5
                have Hoff5 := Lib.hid hoff5
                obtain ⟨L, z, hz⟩ : ∃ L z, scanJ l5 = (L, z) := ⟨_, _, rfl⟩
                have Hz := Lib.hid hz
                obtain ⟨M, hM⟩ : ∃ M, M = L.length := ⟨_, rfl⟩
                have hfew : M ≤ n5 := by have := scanJ_few hok5; rw [hz] at this; rw [hn5, hM]; exact this
                have HM := Lib.hid hM
                clear hT hn5 hrd5 hok5 hoff5 hz hM
                go_wp2_with fail
                refine (jscan_any g d s t hd A5 n5 c5 l5 w10.heap.size wr HT.out Hn5.out hc5 (by omega) (by omega) (by omega) Hrd5.out (Nat.le_of_lt HL6.out.five.lt) Hok5.out Hoff5.out).mono ?_
                rw [Hz.out]
                rintro e wa ⟨v1, rfl, hs1, ⟨d1, s1, t1, hd1, hb1, ht1, hT1⟩, hti1⟩
                have HTa := Lib.hid hT1
                have Htia := Lib.hid hti1
                obtain ⟨A1, c1, rfl⟩ : ∃ A c, v1 = .slice A M c := by rw [HM.out]; exact hs1.slice
                have hs1 : Rs wa wr.heap.size g (.slice A1 M c1) L := hs1
                have Hs1 := Lib.hid hs1
                have Hrda : Hid (RdB wa w10.heap.size A5 l5) := Hrd5.out.turned Hoff5.out hti1
                have Hwa : Hid (wr.heap.size ≤ wa.heap.size) := hti1.grown.size
                clear hs1 hT1 hti1
                go_wp2_with fail
                refine (rscan_any g A5 n5 c5 l5 w10.heap.size wa HTa.out.lt Hn5.out hc5 (by omega) Hrda.out (Nat.le_trans (Nat.le_of_lt HL6.out.five.lt) Hwa.out) Hok5.out).mono ?_
                rw [Hz.out]
                rintro e wb ⟨v2, rfl, hs2, hb2⟩
                obtain ⟨A2, c2, rfl⟩ : ∃ A c, v2 = .slice A M c := by rw [HM.out]; exact hs2.slice
                have hs2 : Rs wb wa.heap.size g (.slice A2 M c2) L := hs2
                have Hs2b := Lib.hid hs2
                have Hb2 := Lib.hid hb2
                have Hrdb : Hid (RdB wb w10.heap.size A5 l5) := Hrda.out.below (hb2.mono (Nat.le_trans (Nat.le_of_lt HL6.out.five.lt) Hwa.out))
                have HTb : Hid (Tab wb g d1 s1 t1) := HTa.out.below hb2
                clear hs2 hb2
                go_wp2_with fail
                refine (jtake_any g d1 s1 t1 hd1 A5 n5 c5 l5 w10.heap.size wb HTb.out Hn5.out hc5 (by omega) (by omega) (by omega) Hrdb.out (Nat.le_trans (Nat.le_of_lt HL6.out.five.lt) (Nat.le_trans Hwa.out Hb2.out.size)) Hok5.out Hoff5.out).mono ?_
                intro e wt hR
                have HR5 := Lib.hid hR
                clear hR
                rcases HR5.out with ⟨hz, rfl, ⟨d2, s2, t2, hd2, hs2, ht2, hT2⟩, hti2⟩ | ⟨x, v3, hz, rfl, ho3, hT2, hti2⟩
                · have e0 := (scanJ_none hz).symm.trans Hz.out
                  injection e0 with e1 e2
                  subst e1
                  subst e2
                  have hM0 : M = 0 := HM.out
                  subst hM0
                  have HRl1 : Hid (RdL wt A1 []) := fun h => absurd h (by simp)
                  have HRl2 : Hid (RdL wt A2 []) := fun h => absurd h (by simp)
                  obtain ⟨L, hL⟩ : ∃ L : List (List Nat), L = [] := ⟨_, rfl⟩
                  rw [← hL] at HRl1 HRl2 HM
                  have Hti2 := Lib.hid hti2
                  have HT2 := Lib.hid hT2
                  have Hs2 := Lib.hid hs2
                  have Ht2 := Lib.hid ht2
                  clear hz hL hti2 hT2 hs2 ht2
                  go_upto_region 27 with fail
                  refine wp_region_noPanic ?_
                  refine wp_region_held_drew (S := fun W => Below wt.heap.size wt W) (by kernel_rfl) ?_ (fun hHeld => ?_)
                  · exact (Below.refl _ _).drew
                  try simp only [heldPut, List.set]
                  refine heldTake (i := 0) (v := ?_) rfl (by kernel_rfl) (by kernel_rfl) (by kernel_rfl) (fun _ _ _ h => h) (Or.inl ⟨by rfl, ?_⟩) (by assumption) ?_
                  rotate_left
                  · (intro W hSw; (try dsimp only at hSw);  go_simp; try with_reducible rfl)
                  try simp only [heldPut, List.set]
                  refine heldTake (i := 1) (v := ?_) rfl (by kernel_rfl) (by kernel_rfl) (by kernel_rfl) (fun _ _ _ h => h) (Or.inl ⟨by rfl, ?_⟩) (by assumption) ?_
                  rotate_left
                  · (intro W hSw; (try dsimp only at hSw);  go_simp; try with_reducible rfl)
                  try simp only [heldPut, List.set]
                  refine heldTake (i := 2) (v := ?_) rfl (by kernel_rfl) (by kernel_rfl) (by kernel_rfl) (fun _ _ _ h => h) (Or.inl ⟨by rfl, ?_⟩) (by assumption) ?_
                  rotate_left
                  · (intro W hSw; (try dsimp only at hSw);  go_simp; try with_reducible rfl)
                  try simp only [heldPut, List.set]
                  refine heldTake (i := 3) (v := ?_) rfl (by kernel_rfl) (by kernel_rfl) (by kernel_rfl) (fun _ _ _ h => h) (Or.inl ⟨by rfl, ?_⟩) (by assumption) ?_
                  rotate_left
                  · (intro W hSw; (try dsimp only at hSw);  go_simp; try with_reducible rfl)
                  try simp only [heldPut, List.set]
                  refine heldTake (i := 4) (v := ?_) rfl (by kernel_rfl) (by kernel_rfl) (by kernel_rfl) (fun _ _ _ h => h) (Or.inl ⟨by rfl, ?_⟩) (by assumption) ?_
                  rotate_left
                  · (intro W hSw; (try dsimp only at hSw);  go_simp; try with_reducible rfl)
                  try simp only [heldPut, List.set]
                  refine heldTake (i := 5) (v := ?_) rfl (by kernel_rfl) (by kernel_rfl) (by kernel_rfl) (fun _ _ _ h => h) (Or.inl ⟨by rfl, ?_⟩) (by assumption) ?_
                  rotate_left
                  · (intro W hSw; (try dsimp only at hSw);  go_simp; try with_reducible rfl)
                  try simp only [heldPut, List.set]
                  refine heldOne (i := 6) rfl (by kernel_rfl) (fun K hK => ?_)
                  go_simp
                  refine (same7_any A1 0 c1 L A2 0 c2 L _ HM.out HM.out (HRl1.out.keep hHeld) (HRl2.out.keep hHeld) (by omega)).mono ?_
                  rintro e w5 ⟨he, hb5⟩
                  have he : e = .returned (.bool true) := by rw [he]; simp
                  subst he
                  have HB5 : Hid (Below wt.heap.size wt w5) := hHeld.trans (hb5.mono hHeld.size)
                  clear hb5
                  go_wp2_with fail
                  refine hK.out _ _ ?_ (fun hHeld => ?_)
                  · exact HB5.out
                  clear hK K
                  try simp only [heldPut, List.set]
                  refine heldTake (i := 7) (v := ?_) rfl (by kernel_rfl) (by kernel_rfl) (by kernel_rfl) (fun _ _ _ h => h) (Or.inl ⟨by rfl, ?_⟩) (by assumption) ?_
                  rotate_left
                  · (intro W hSw; (try dsimp only at hSw);  go_simp; try with_reducible rfl)
                  try simp only [heldPut, List.set]
                  refine heldTake (i := 8) (v := ?_) rfl (by kernel_rfl) (by kernel_rfl) (by kernel_rfl) (fun _ _ _ h => h) (Or.inl ⟨by rfl, ?_⟩) (by assumption) ?_
                  rotate_left
                  · (intro W hSw; (try dsimp only at hSw);  go_simp; try with_reducible rfl)
                  try simp only [heldPut, List.set]
                  refine heldTake (i := 9) (v := ?_) rfl (by kernel_rfl) (by kernel_rfl) (by kernel_rfl) (fun _ _ _ h => h) (Or.inl ⟨by rfl, ?_⟩) (by assumption) ?_
                  rotate_left
                  · (intro W hSw; (try dsimp only at hSw);  go_simp; try with_reducible rfl)
                  try simp only [heldPut, List.set]
                  refine heldTake (i := 10) (v := ?_) rfl (by kernel_rfl) (by kernel_rfl) (by kernel_rfl) (fun _ _ _ h => h) (Or.inl ⟨by rfl, ?_⟩) (by assumption) ?_
                  rotate_left
                  · (intro W hSw; (try dsimp only at hSw);  go_simp; try with_reducible rfl)
                  try simp only [heldPut, List.set]
                  refine heldTake (i := 11) (v := ?_) rfl (by kernel_rfl) (by kernel_rfl) (by kernel_rfl) (fun _ _ _ h => h) (Or.inl ⟨by rfl, ?_⟩) (by assumption) ?_
                  rotate_left
                  · (intro W hSw; (try dsimp only at hSw);  go_simp; try with_reducible rfl)
                  try simp only [heldPut, List.set]
                  refine heldTake (i := 12) (v := ?_) rfl (by kernel_rfl) (by kernel_rfl) (by kernel_rfl) (fun _ _ _ h => h) (Or.inl ⟨by rfl, ?_⟩) (by assumption) ?_
                  rotate_left
                  · (intro W hSw; (try dsimp only at hSw);  go_simp; try with_reducible rfl)
                  try simp only [heldPut, List.set]
                  refine heldTake (i := 13) (v := ?_) rfl (by kernel_rfl) (by kernel_rfl) (by kernel_rfl) (fun _ _ _ h => h) (Or.inl ⟨by rfl, ?_⟩) (by assumption) ?_
                  rotate_left
                  · (intro W hSw; (try dsimp only at hSw);  go_simp; try with_reducible rfl)
                  try simp only [heldPut, List.set]
                  refine heldTake (i := 14) (v := ?_) rfl (by kernel_rfl) (by kernel_rfl) (by kernel_rfl) (fun _ _ _ h => h) (Or.inl ⟨by rfl, ?_⟩) (by assumption) ?_
                  rotate_left
                  · (intro W hSw; (try dsimp only at hSw);  go_simp; try with_reducible rfl)
                  try simp only [heldPut, List.set]
                  refine heldTake (i := 15) (v := ?_) rfl (by kernel_rfl) (by kernel_rfl) (by kernel_rfl) (fun _ _ _ h => h) (Or.inl ⟨by rfl, ?_⟩) (by assumption) ?_
                  rotate_left
                  · (intro W hSw; (try dsimp only at hSw);  go_simp; try with_reducible rfl)
                  try simp only [heldPut, List.set]
                  refine heldTake (i := 16) (v := ?_) rfl (by kernel_rfl) (by kernel_rfl) (by kernel_rfl) (fun _ _ _ h => h) (Or.inl ⟨by rfl, ?_⟩) (by assumption) ?_
                  rotate_left
                  · (intro W hSw; (try dsimp only at hSw);  go_simp; try with_reducible rfl)
                  try simp only [heldPut, List.set]
                  refine heldTake (i := 17) (v := ?_) rfl (by kernel_rfl) (by kernel_rfl) (by kernel_rfl) (fun _ _ _ h => h) (Or.inl ⟨by rfl, ?_⟩) (by assumption) ?_
                  rotate_left
                  · (intro W hSw; (try dsimp only at hSw);  go_simp; try with_reducible rfl)
                  try simp only [heldPut, List.set]
                  refine heldTake (i := 18) (v := ?_) rfl (by kernel_rfl) (by kernel_rfl) (by kernel_rfl) (fun _ _ _ h => h) (Or.inl ⟨by rfl, ?_⟩) (by assumption) ?_
                  rotate_left
                  · (intro W hSw; (try dsimp only at hSw);  go_simp; try with_reducible rfl)
                  try simp only [heldPut, List.set]
                  refine heldTake (i := 19) (v := undef) rfl (by kernel_rfl) (by kernel_rfl) (by kernel_rfl) (fun _ _ _ h => h) (Or.inr ⟨by rfl, rfl⟩) (by assumption) ?_
                  try simp only [heldPut, List.set]
                  refine heldTake (i := 20) (v := undef) rfl (by kernel_rfl) (by kernel_rfl) (by kernel_rfl) (fun _ _ _ h => h) (Or.inr ⟨by rfl, rfl⟩) (by assumption) ?_
                  try simp only [heldPut, List.set]
                  refine heldTake (i := 21) (v := undef) rfl (by kernel_rfl) (by kernel_rfl) (by kernel_rfl) (fun _ _ _ h => h) (Or.inr ⟨by rfl, rfl⟩) (by assumption) ?_
                  try simp only [heldPut, List.set]
                  refine heldTake (i := 22) (v := undef) rfl (by kernel_rfl) (by kernel_rfl) (by kernel_rfl) (fun _ _ _ h => h) (Or.inr ⟨by rfl, rfl⟩) (by assumption) ?_
                  try simp only [heldPut, List.set]
                  refine heldTake (i := 23) (v := undef) rfl (by kernel_rfl) (by kernel_rfl) (by kernel_rfl) (fun _ _ _ h => h) (Or.inr ⟨by rfl, rfl⟩) (by assumption) ?_
                  try simp only [heldPut, List.set]
                  refine heldTake (i := 24) (v := undef) rfl (by kernel_rfl) (by kernel_rfl) (by kernel_rfl) (fun _ _ _ h => h) (Or.inr ⟨by rfl, rfl⟩) (by assumption) ?_
                  try simp only [heldPut, List.set]
                  refine heldTake (i := 25) (v := undef) rfl (by kernel_rfl) (by kernel_rfl) (by kernel_rfl) (fun _ _ _ h => h) (Or.inr ⟨by rfl, rfl⟩) (by assumption) ?_
                  try simp only [heldPut, List.set]
                  refine heldTake (i := 26) (v := undef) rfl (by kernel_rfl) (by kernel_rfl) (by kernel_rfl) (fun _ _ _ h => h) (Or.inr ⟨by rfl, rfl⟩) (by assumption) ?_
                  try simp only [heldPut, List.set]
                  refine heldTake (i := 27) (v := undef) rfl (by kernel_rfl) (by kernel_rfl) (by kernel_rfl) (fun _ _ _ h => h) (Or.inr ⟨by rfl, rfl⟩) (by assumption) ?_
                  try simp only [heldPut, List.set]
                  refine heldTake (i := 28) (v := undef) rfl (by kernel_rfl) (by kernel_rfl) (by kernel_rfl) (fun _ _ _ h => h) (Or.inr ⟨by rfl, rfl⟩) (by assumption) ?_
                  try simp only [heldPut, List.set]
                  refine heldTake (i := 29) (v := undef) rfl (by kernel_rfl) (by kernel_rfl) (by kernel_rfl) (fun _ _ _ h => h) (Or.inr ⟨by rfl, rfl⟩) (by assumption) ?_
                  try simp only [heldPut, List.set]
                  refine heldTake (i := 30) (v := undef) rfl (by kernel_rfl) (by kernel_rfl) (by kernel_rfl) (fun _ _ _ h => h) (Or.inr ⟨by rfl, rfl⟩) (by assumption) ?_
                  try simp only [heldPut, List.set]
                  refine heldTake (i := 31) (v := undef) rfl (by kernel_rfl) (by kernel_rfl) (by kernel_rfl) (fun _ _ _ h => h) (Or.inr ⟨by rfl, rfl⟩) (by assumption) ?_
                  try simp only [heldPut, List.set]
                  refine heldTake (i := 32) (v := undef) rfl (by kernel_rfl) (by kernel_rfl) (by kernel_rfl) (fun _ _ _ h => h) (Or.inr ⟨by rfl, rfl⟩) (by assumption) ?_
                  try simp only [heldPut, List.set]
                  refine heldTake (i := 33) (v := ?_) rfl (by kernel_rfl) (by kernel_rfl) (by kernel_rfl) (fun _ _ _ h => h) (Or.inl ⟨by rfl, ?_⟩) (by assumption) ?_
                  rotate_left
                  · (intro W hSw; (try dsimp only at hSw);  go_simp; try with_reducible rfl)
                  try simp only [heldPut, List.set]
                  refine heldTake (i := 34) (v := ?_) rfl (by kernel_rfl) (by kernel_rfl) (by kernel_rfl) (fun _ _ _ h => h) (Or.inl ⟨by rfl, ?_⟩) (by assumption) ?_
                  rotate_left
                  · (intro W hSw; (try dsimp only at hSw);  go_simp; try with_reducible rfl)
                  try simp only [heldPut, List.set]
                  refine heldTake (i := 35) (v := ?_) rfl (by kernel_rfl) (by kernel_rfl) (by kernel_rfl) (fun _ _ _ h => h) (Or.inl ⟨by rfl, ?_⟩) (by assumption) ?_
                  rotate_left
                  · (intro W hSw; (try dsimp only at hSw);  go_simp; try with_reducible rfl)
                  try simp only [heldPut, List.set]
                  refine heldTake (i := 36) (v := ?_) rfl (by kernel_rfl) (by kernel_rfl) (by kernel_rfl) (fun _ _ _ h => h) (Or.inl ⟨by rfl, ?_⟩) (by assumption) ?_
                  rotate_left
                  · (intro W hSw; (try dsimp only at hSw);  go_simp; try with_reducible rfl)
                  try simp only [heldPut, List.set]
                  refine heldTake (i := 37) (v := ?_) rfl (by kernel_rfl) (by kernel_rfl) (by kernel_rfl) (fun _ _ _ h => h) (Or.inl ⟨by rfl, ?_⟩) (by assumption) ?_
                  rotate_left
                  · (intro W hSw; (try dsimp only at hSw);  go_simp; try with_reducible rfl)
                  try simp only [heldPut, List.set]
                  refine heldTake (i := 38) (v := ?_) rfl (by kernel_rfl) (by kernel_rfl) (by kernel_rfl) (fun _ _ _ h => h) (Or.inl ⟨by rfl, ?_⟩) (by assumption) ?_
                  rotate_left
                  · (intro W hSw; (try dsimp only at hSw);  go_simp; try with_reducible rfl)
                  try simp only [heldPut, List.set]
                  refine heldTake (i := 39) (v := ?_) rfl (by kernel_rfl) (by kernel_rfl) (by kernel_rfl) (fun _ _ _ h => h) (Or.inl ⟨by rfl, ?_⟩) (by assumption) ?_
                  rotate_left
                  · (intro W hSw; (try dsimp only at hSw);  go_simp; try with_reducible rfl)
                  try simp only [heldPut, List.set]
                  refine heldTake (i := 40) (v := ?_) rfl (by kernel_rfl) (by kernel_rfl) (by kernel_rfl) (fun _ _ _ h => h) (Or.inl ⟨by rfl, ?_⟩) (by assumption) ?_
                  rotate_left
                  · (intro W hSw; (try dsimp only at hSw);  go_simp; try with_reducible rfl)
                  try simp only [heldPut, List.set]
                  refine heldTake (i := 41) (v := ?_) rfl (by kernel_rfl) (by kernel_rfl) (by kernel_rfl) (fun _ _ _ h => h) (Or.inl ⟨by rfl, ?_⟩) (by assumption) ?_
                  rotate_left
                  · (intro W hSw; (try dsimp only at hSw);  go_simp; try with_reducible rfl)
                  try simp only [heldPut, List.set]
                  refine heldTake (i := 42) (v := ?_) rfl (by kernel_rfl) (by kernel_rfl) (by kernel_rfl) (fun _ _ _ h => h) (Or.inl ⟨by rfl, ?_⟩) (by assumption) ?_
                  rotate_left
                  · (intro W hSw; (try dsimp only at hSw);  go_simp; try with_reducible rfl)
                  try simp only [heldPut, List.set]
                  refine heldTake (i := 43) (v := ?_) rfl (by kernel_rfl) (by kernel_rfl) (by kernel_rfl) (fun _ _ _ h => h) (Or.inl ⟨by rfl, ?_⟩) (by assumption) ?_
                  rotate_left
                  · (intro W hSw; (try dsimp only at hSw);  go_simp; try with_reducible rfl)
                  try simp only [heldPut, List.set]
                  refine heldTake (i := 44) (v := ?_) rfl (by kernel_rfl) (by kernel_rfl) (by kernel_rfl) (fun _ _ _ h => h) (Or.inl ⟨by rfl, ?_⟩) (by assumption) ?_
                  rotate_left
                  · (intro W hSw; (try dsimp only at hSw);  go_simp; try with_reducible rfl)
                  try simp only [heldPut, List.set]
                  refine heldTake (i := 45) (v := ?_) rfl (by kernel_rfl) (by kernel_rfl) (by kernel_rfl) (fun _ _ _ h => h) (Or.inl ⟨by rfl, ?_⟩) (by assumption) ?_
                  rotate_left
                  · (intro W hSw; (try dsimp only at hSw);  go_simp; try with_reducible rfl)
                  try simp only [heldPut, List.set]
                  refine heldTake (i := 46) (v := ?_) rfl (by kernel_rfl) (by kernel_rfl) (by kernel_rfl) (fun _ _ _ h => h) (Or.inl ⟨by rfl, ?_⟩) (by assumption) ?_
                  rotate_left
                  · (intro W hSw; (try dsimp only at hSw);  go_simp; try with_reducible rfl)
                  try simp only [heldPut, List.set]
                  refine heldTake (i := 47) (v := ?_) rfl (by kernel_rfl) (by kernel_rfl) (by kernel_rfl) (fun _ _ _ h => h) (Or.inl ⟨by rfl, ?_⟩) (by assumption) ?_
                  rotate_left
                  · (intro W hSw; (try dsimp only at hSw);  go_simp; try with_reducible rfl)
                  try simp only [heldPut, List.set]
                  refine wpAnyH_done (by kernel_rfl) ?_ _
                  refine NoPanic.normal ?_
                  go_wp2_with fail
                  go_roundw
                  case rel => exact ⟨k5 + 1, by omega, by go_num, HL6.out.next Htia.out Hb2.out Hti2.out HB5.out (by have := Hs2.out; omega) (by have := Ht2.out; omega) hd2 HT2.out⟩
                  case measure => simp [intOf]; omega
                · have e0 := (scanJ_some hz).symm.trans Hz.out
                  injection e0 with e1 e2
                  have hlong := takeJ_long hz
                  rw [← Hn5.out] at hlong
                  have hM0 : 0 < M := by rw [HM.out, ← e1]; simp
                  obtain ⟨xl, hxl⟩ : ∃ xl, xl = x.length := ⟨_, rfl⟩
                  rw [← hxl]
                  rw [← hxl] at ho3 hlong hT2
                  obtain ⟨A3, c3, rfl⟩ := ownB_slice ho3
                  obtain ⟨y1, y2, y3⟩ := rdB_of_own ho3
                  have HcvY : Hid (∀ W, Below wt.heap.size wt W → (convert 30 9 (.slice A3 xl c3)).run Try.prog W = .ok (.string (strB x)) W) := fun W hW => conv_any (w := W) (y1.below hW) y2 y3
                  have rs1 := ((Hs1.out.below Hb2.out).turned hti2).rdL.1
                  have rs2 := (Hs2b.out.turned hti2).rdL.1
                  have HRl1 := Lib.hid rs1
                  have HRl2 := Lib.hid rs2
                  obtain ⟨b2, o2, rfl, hl2, hrow⟩ := rs2 (by rw [← HM.out]; exact hM0)
                  obtain ⟨Ax, cx, hcx, hrx, hnx, hox⟩ := hrow 0 x (by rw [← e1]; rfl)
                  rw [← hxl] at hcx hnx
                  rw [Nat.add_zero] at hcx
                  have HldY : Hid (∀ W, Below wt.heap.size wt W → W.cell? ⟨b2, o2, none⟩ = some (.slice Ax xl cx)) := fun W hW => (hW.cell (p := ⟨b2, o2, none⟩) hl2).trans hcx
                  have HcvX : Hid (∀ W, Below wt.heap.size wt W → (convert 30 9 (.slice Ax xl cx)).run Try.prog W = .ok (.string (strB x)) W) := fun W hW => conv_any (w := W) (hrx.below hW) hxl hnx
                  have hw8 : IntKind.i64.wrap ((xl : Int) + 8) = (xl : Int) + 8 := by rw [IntKind.wrap_i64]; omega
                  have Hti2 := Lib.hid hti2
                  have HT2 := Lib.hid hT2
                  clear e1 e2 hz hxl ho3 y1 y2 y3 rs1 rs2 hrow hcx hrx hnx hox hti2 hT2
                  go_upto_region 27 with fail
                  refine wp_region_noPanic ?_
                  refine wp_region_held_drew (S := fun W => Below wt.heap.size wt W) (by kernel_rfl) ?_ (fun hHeld => ?_)
                  · exact (Below.refl _ _).drew
                  try simp only [heldPut, List.set]
                  refine heldTake (i := 0) (v := ?_) rfl (by kernel_rfl) (by kernel_rfl) (by kernel_rfl) (fun _ _ _ h => h) (Or.inl ⟨by rfl, ?_⟩) (by assumption) ?_
                  rotate_left
                  · (intro W hSw; (try dsimp only at hSw);  go_simp; try with_reducible rfl)
                  try simp only [heldPut, List.set]
                  refine heldTake (i := 1) (v := ?_) rfl (by kernel_rfl) (by kernel_rfl) (by kernel_rfl) (fun _ _ _ h => h) (Or.inl ⟨by rfl, ?_⟩) (by assumption) ?_
                  rotate_left
                  · (intro W hSw; (try dsimp only at hSw);  go_simp; try with_reducible rfl)
                  try simp only [heldPut, List.set]
                  refine heldTake (i := 2) (v := ?_) rfl (by kernel_rfl) (by kernel_rfl) (by kernel_rfl) (fun _ _ _ h => h) (Or.inl ⟨by rfl, ?_⟩) (by assumption) ?_
                  rotate_left
                  · (intro W hSw; (try dsimp only at hSw);  go_simp; try with_reducible rfl)
                  try simp only [heldPut, List.set]
                  refine heldTake (i := 3) (v := ?_) rfl (by kernel_rfl) (by kernel_rfl) (by kernel_rfl) (fun _ _ _ h => h) (Or.inl ⟨by rfl, ?_⟩) (by assumption) ?_
                  rotate_left
                  · (intro W hSw; (try dsimp only at hSw);  go_simp; try with_reducible rfl)
                  try simp only [heldPut, List.set]
                  refine heldTake (i := 4) (v := ?_) rfl (by kernel_rfl) (by kernel_rfl) (by kernel_rfl) (fun _ _ _ h => h) (Or.inl ⟨by rfl, ?_⟩) (by assumption) ?_
                  rotate_left
                  · (intro W hSw; (try dsimp only at hSw);  go_simp; try with_reducible rfl)
                  try simp only [heldPut, List.set]
                  refine heldTake (i := 5) (v := ?_) rfl (by kernel_rfl) (by kernel_rfl) (by kernel_rfl) (fun _ _ _ h => h) (Or.inl ⟨by rfl, ?_⟩) (by assumption) ?_
                  rotate_left
                  · (intro W hSw; (try dsimp only at hSw);  go_simp; try with_reducible rfl)
                  try simp only [heldPut, List.set]
                  refine heldOne (i := 6) rfl (by kernel_rfl) (fun K hK => ?_)
                  go_simp
                  refine (same7_any A1 M c1 L (some ⟨b2, o2, none⟩) M c2 L _ HM.out HM.out (HRl1.out.keep hHeld) (HRl2.out.keep hHeld) (by omega)).mono ?_
                  rintro e w5 ⟨he, hb5⟩
                  have he : e = .returned (.bool true) := by rw [he]; simp
                  subst he
                  have HB5 : Hid (Below wt.heap.size wt w5) := hHeld.trans (hb5.mono hHeld.size)
                  clear hb5
                  go_wp2_with fail
                  refine hK.out _ _ ?_ (fun hHeld => ?_)
                  · exact HB5.out
                  clear hK K
                  try simp only [heldPut, List.set]
                  refine heldTake (i := 7) (v := ?_) rfl (by kernel_rfl) (by kernel_rfl) (by kernel_rfl) (fun _ _ _ h => h) (Or.inl ⟨by rfl, ?_⟩) (by assumption) ?_
                  rotate_left
                  · (intro W hSw; (try dsimp only at hSw);  go_simp; try with_reducible rfl)
                  try simp only [heldPut, List.set]
                  refine heldTake (i := 8) (v := ?_) rfl (by kernel_rfl) (by kernel_rfl) (by kernel_rfl) (fun _ _ _ h => h) (Or.inl ⟨by rfl, ?_⟩) (by assumption) ?_
                  rotate_left
                  · (intro W hSw; (try dsimp only at hSw);  go_simp; try with_reducible rfl)
                  try simp only [heldPut, List.set]
                  refine heldTake (i := 9) (v := ?_) rfl (by kernel_rfl) (by kernel_rfl) (by kernel_rfl) (fun _ _ _ h => h) (Or.inl ⟨by rfl, ?_⟩) (by assumption) ?_
                  rotate_left
                  · (intro W hSw; (try dsimp only at hSw);  go_simp; try with_reducible rfl)
                  try simp only [heldPut, List.set]
                  refine heldTake (i := 10) (v := ?_) rfl (by kernel_rfl) (by kernel_rfl) (by kernel_rfl) (fun _ _ _ h => h) (Or.inl ⟨by rfl, ?_⟩) (by assumption) ?_
                  rotate_left
                  · (intro W hSw; (try dsimp only at hSw);  go_simp; try with_reducible rfl)
                  try simp only [heldPut, List.set]
                  refine heldTake (i := 11) (v := ?_) rfl (by kernel_rfl) (by kernel_rfl) (by kernel_rfl) (fun _ _ _ h => h) (Or.inl ⟨by rfl, ?_⟩) (by assumption) ?_
                  rotate_left
                  · (intro W hSw; (try dsimp only at hSw);  go_simp; try with_reducible rfl)
                  try simp only [heldPut, List.set]
                  refine heldTake (i := 12) (v := ?_) rfl (by kernel_rfl) (by kernel_rfl) (by kernel_rfl) (fun _ _ _ h => h) (Or.inl ⟨by rfl, ?_⟩) (by assumption) ?_
                  rotate_left
                  · (intro W hSw; (try dsimp only at hSw);  go_simp; try with_reducible rfl)
                  try simp only [heldPut, List.set]
                  refine heldTake (i := 13) (v := ?_) rfl (by kernel_rfl) (by kernel_rfl) (by kernel_rfl) (fun _ _ _ h => h) (Or.inl ⟨by rfl, ?_⟩) (by assumption) ?_
                  rotate_left
                  · (intro W hSw; (try dsimp only at hSw);  go_simp; try with_reducible rfl)
                  try simp only [heldPut, List.set]
                  refine heldTake (i := 14) (v := ?_) rfl (by kernel_rfl) (by kernel_rfl) (by kernel_rfl) (fun _ _ _ h => h) (Or.inl ⟨by rfl, ?_⟩) (by assumption) ?_
                  rotate_left
                  · (intro W hSw; (try dsimp only at hSw);  go_simp; try with_reducible rfl)
                  try simp only [heldPut, List.set]
                  refine heldTake (i := 15) (v := ?_) rfl (by kernel_rfl) (by kernel_rfl) (by kernel_rfl) (fun _ _ _ h => h) (Or.inl ⟨by rfl, ?_⟩) (by assumption) ?_
                  rotate_left
                  · (intro W hSw; (try dsimp only at hSw);  go_simp; try with_reducible rfl)
                  try simp only [heldPut, List.set]
                  refine heldTake (i := 16) (v := ?_) rfl (by kernel_rfl) (by kernel_rfl) (by kernel_rfl) (fun _ _ _ h => h) (Or.inl ⟨by rfl, ?_⟩) (by assumption) ?_
                  rotate_left
                  · (intro W hSw; (try dsimp only at hSw);  go_simp; try with_reducible rfl)
                  try simp only [heldPut, List.set]
                  refine heldTake (i := 17) (v := ?_) rfl (by kernel_rfl) (by kernel_rfl) (by kernel_rfl) (fun _ _ _ h => h) (Or.inl ⟨by rfl, ?_⟩) (by assumption) ?_
                  rotate_left
                  · (intro W hSw; (try dsimp only at hSw);  go_simp; try with_reducible rfl)
                  try simp only [heldPut, List.set]
                  refine heldTake (i := 18) (v := ?_) rfl (by kernel_rfl) (by kernel_rfl) (by kernel_rfl) (fun _ _ _ h => h) (Or.inl ⟨by rfl, ?_⟩) (by assumption) ?_
                  rotate_left
                  · (intro W hSw; (try dsimp only at hSw);  go_simp; try with_reducible rfl)
                  try simp only [heldPut, List.set]
                  refine heldTake (i := 19) (v := ?_) rfl (by kernel_rfl) (by kernel_rfl) (by kernel_rfl) (fun _ _ _ h => h) (Or.inl ⟨by rfl, ?_⟩) (by assumption) ?_
                  rotate_left
                  · (intro W hSw; (try dsimp only at hSw);  go_simp; try with_reducible rfl)
                  try simp only [heldPut, List.set]
                  refine heldTake (i := 20) (v := ?_) rfl (by kernel_rfl) (by kernel_rfl) (by kernel_rfl) (fun _ _ _ h => h) (Or.inl ⟨by rfl, ?_⟩) (by assumption) ?_
                  rotate_left
                  · (intro W hSw; (try dsimp only at hSw); have fy := HcvY.out W hSw; go_simp; try with_reducible rfl)
                  try simp only [heldPut, List.set]
                  refine heldTake (i := 21) (v := ?_) rfl (by kernel_rfl) (by kernel_rfl) (by kernel_rfl) (fun _ _ _ h => h) (Or.inl ⟨by rfl, ?_⟩) (by assumption) ?_
                  rotate_left
                  · (intro W hSw; (try dsimp only at hSw);  go_simp; try with_reducible rfl)
                  try simp only [heldPut, List.set]
                  refine heldTake (i := 22) (v := ?_) rfl (by kernel_rfl) (by kernel_rfl) (by kernel_rfl) (fun _ _ _ h => h) (Or.inl ⟨by rfl, ?_⟩) (by assumption) ?_
                  rotate_left
                  · (intro W hSw; (try dsimp only at hSw);  go_simp; try with_reducible rfl)
                  try simp only [heldPut, List.set]
                  refine heldTake (i := 23) (v := ?_) rfl (by kernel_rfl) (by kernel_rfl) (by kernel_rfl) (fun _ _ _ h => h) (Or.inl ⟨by rfl, ?_⟩) (by assumption) ?_
                  rotate_left
                  · (intro W hSw; (try dsimp only at hSw); have fy := HldY.out W hSw; go_simp; try with_reducible rfl)
                  try simp only [heldPut, List.set]
                  refine heldTake (i := 24) (v := ?_) rfl (by kernel_rfl) (by kernel_rfl) (by kernel_rfl) (fun _ _ _ h => h) (Or.inl ⟨by rfl, ?_⟩) (by assumption) ?_
                  rotate_left
                  · (intro W hSw; (try dsimp only at hSw); have fy := HcvX.out W hSw; go_simp; try with_reducible rfl)
                  try simp only [heldPut, List.set]
                  refine heldTake (i := 25) (v := ?_) rfl (by kernel_rfl) (by kernel_rfl) (by kernel_rfl) (fun _ _ _ h => h) (Or.inl ⟨by rfl, ?_⟩) (by assumption) ?_
                  rotate_left
                  · (intro W hSw; (try dsimp only at hSw);  go_simp; try with_reducible rfl)
                  try simp only [heldPut, List.set]
                  refine heldTake (i := 26) (v := ?_) rfl (by kernel_rfl) (by kernel_rfl) (by kernel_rfl) (fun _ _ _ h => h) (Or.inl ⟨by rfl, ?_⟩) (by assumption) ?_
                  rotate_left
                  · (intro W hSw; (try dsimp only at hSw);  go_simp; try with_reducible rfl)
                  try simp only [heldPut, List.set]
                  refine heldTake (i := 27) (v := ?_) rfl (by kernel_rfl) (by kernel_rfl) (by kernel_rfl) (fun _ _ _ h => h) (Or.inl ⟨by rfl, ?_⟩) (by assumption) ?_
                  rotate_left
                  · (intro W hSw; (try dsimp only at hSw);  go_simp; try with_reducible rfl)
                  try simp only [heldPut, List.set]
                  refine heldTake (i := 28) (v := ?_) rfl (by kernel_rfl) (by kernel_rfl) (by kernel_rfl) (fun _ _ _ h => h) (Or.inl ⟨by rfl, ?_⟩) (by assumption) ?_
                  rotate_left
                  · (intro W hSw; (try dsimp only at hSw);  go_simp; try with_reducible rfl)
                  try simp only [heldPut, List.set]
                  refine heldTake (i := 29) (v := ?_) rfl (by kernel_rfl) (by kernel_rfl) (by kernel_rfl) (fun _ _ _ h => h) (Or.inl ⟨by rfl, ?_⟩) (by assumption) ?_
                  rotate_left
                  · (intro W hSw; (try dsimp only at hSw);  go_simp; try with_reducible rfl)
                  try simp only [heldPut, List.set]
                  refine heldTake (i := 30) (v := ?_) rfl (by kernel_rfl) (by kernel_rfl) (by kernel_rfl) (fun _ _ _ h => h) (Or.inl ⟨by rfl, ?_⟩) (by assumption) ?_
                  rotate_left
                  · (intro W hSw; (try dsimp only at hSw);  go_simp; try with_reducible rfl)
                  try simp only [heldPut, List.set]
                  refine heldTake (i := 31) (v := ?_) rfl (by kernel_rfl) (by kernel_rfl) (by kernel_rfl) (fun _ _ _ h => h) (Or.inl ⟨by rfl, ?_⟩) (by assumption) ?_
                  rotate_left
                  · (intro W hSw; (try dsimp only at hSw);  go_simp; try with_reducible rfl)
                  try simp only [heldPut, List.set]
                  refine heldTake (i := 32) (v := ?_) rfl (by kernel_rfl) (by kernel_rfl) (by kernel_rfl) (fun _ _ _ h => h) (Or.inl ⟨by rfl, ?_⟩) (by assumption) ?_
                  rotate_left
                  · (intro W hSw; (try dsimp only at hSw);  go_simp; try with_reducible rfl)
                  try simp only [heldPut, List.set]
                  refine heldTake (i := 33) (v := ?_) rfl (by kernel_rfl) (by kernel_rfl) (by kernel_rfl) (fun _ _ _ h => h) (Or.inl ⟨by rfl, ?_⟩) (by assumption) ?_
                  rotate_left
                  · (intro W hSw; (try dsimp only at hSw);  go_simp; try with_reducible rfl)
                  try simp only [heldPut, List.set]
                  refine heldTake (i := 34) (v := ?_) rfl (by kernel_rfl) (by kernel_rfl) (by kernel_rfl) (fun _ _ _ h => h) (Or.inl ⟨by rfl, ?_⟩) (by assumption) ?_
                  rotate_left
                  · (intro W hSw; (try dsimp only at hSw);  go_simp; try with_reducible rfl)
                  try simp only [heldPut, List.set]
                  refine heldTake (i := 35) (v := ?_) rfl (by kernel_rfl) (by kernel_rfl) (by kernel_rfl) (fun _ _ _ h => h) (Or.inl ⟨by rfl, ?_⟩) (by assumption) ?_
                  rotate_left
                  · (intro W hSw; (try dsimp only at hSw);  go_simp; try with_reducible rfl)
                  try simp only [heldPut, List.set]
                  refine heldTake (i := 36) (v := ?_) rfl (by kernel_rfl) (by kernel_rfl) (by kernel_rfl) (fun _ _ _ h => h) (Or.inl ⟨by rfl, ?_⟩) (by assumption) ?_
                  rotate_left
                  · (intro W hSw; (try dsimp only at hSw);  go_simp; try with_reducible rfl)
                  try simp only [heldPut, List.set]
                  refine heldTake (i := 37) (v := ?_) rfl (by kernel_rfl) (by kernel_rfl) (by kernel_rfl) (fun _ _ _ h => h) (Or.inl ⟨by rfl, ?_⟩) (by assumption) ?_
                  rotate_left
                  · (intro W hSw; (try dsimp only at hSw);  go_simp; try with_reducible rfl)
                  try simp only [heldPut, List.set]
                  refine heldTake (i := 38) (v := ?_) rfl (by kernel_rfl) (by kernel_rfl) (by kernel_rfl) (fun _ _ _ h => h) (Or.inl ⟨by rfl, ?_⟩) (by assumption) ?_
                  rotate_left
                  · (intro W hSw; (try dsimp only at hSw);  go_simp; try with_reducible rfl)
                  try simp only [heldPut, List.set]
                  refine heldTake (i := 39) (v := undef) rfl (by kernel_rfl) (by kernel_rfl) (by kernel_rfl) (fun _ _ _ h => h) (Or.inr ⟨by rfl, rfl⟩) (by assumption) ?_
                  try simp only [heldPut, List.set]
                  refine heldTake (i := 40) (v := undef) rfl (by kernel_rfl) (by kernel_rfl) (by kernel_rfl) (fun _ _ _ h => h) (Or.inr ⟨by rfl, rfl⟩) (by assumption) ?_
                  try simp only [heldPut, List.set]
                  refine heldTake (i := 41) (v := undef) rfl (by kernel_rfl) (by kernel_rfl) (by kernel_rfl) (fun _ _ _ h => h) (Or.inr ⟨by rfl, rfl⟩) (by assumption) ?_
                  try simp only [heldPut, List.set]
                  refine heldTake (i := 42) (v := undef) rfl (by kernel_rfl) (by kernel_rfl) (by kernel_rfl) (fun _ _ _ h => h) (Or.inr ⟨by rfl, rfl⟩) (by assumption) ?_
                  try simp only [heldPut, List.set]
                  refine heldTake (i := 43) (v := undef) rfl (by kernel_rfl) (by kernel_rfl) (by kernel_rfl) (fun _ _ _ h => h) (Or.inr ⟨by rfl, rfl⟩) (by assumption) ?_
                  try simp only [heldPut, List.set]
                  refine heldTake (i := 44) (v := undef) rfl (by kernel_rfl) (by kernel_rfl) (by kernel_rfl) (fun _ _ _ h => h) (Or.inr ⟨by rfl, rfl⟩) (by assumption) ?_
                  try simp only [heldPut, List.set]
                  refine heldTake (i := 45) (v := undef) rfl (by kernel_rfl) (by kernel_rfl) (by kernel_rfl) (fun _ _ _ h => h) (Or.inr ⟨by rfl, rfl⟩) (by assumption) ?_
                  try simp only [heldPut, List.set]
                  refine heldTake (i := 46) (v := ?_) rfl (by kernel_rfl) (by kernel_rfl) (by kernel_rfl) (fun _ _ _ h => h) (Or.inl ⟨by rfl, ?_⟩) (by assumption) ?_
                  rotate_left
                  · (intro W hSw; (try dsimp only at hSw);  go_simp; try with_reducible rfl)
                  try simp only [heldPut, List.set]
                  refine heldTake (i := 47) (v := ?_) rfl (by kernel_rfl) (by kernel_rfl) (by kernel_rfl) (fun _ _ _ h => h) (Or.inl ⟨by rfl, ?_⟩) (by assumption) ?_
                  rotate_left
                  · (intro W hSw; (try dsimp only at hSw);  go_simp; try with_reducible rfl)
                  try simp only [heldPut, List.set]
                  refine wpAnyH_done (by kernel_rfl) ?_ _
                  refine NoPanic.normal ?_
                  go_wp2_with fail
                  go_roundw
                  case rel => exact ⟨k5 + 1, by omega, by go_num, HL6.out.next Htia.out Hb2.out Hti2.out HB5.out (by omega) (by omega) (Nat.le_refl _) HT2.out⟩
                  case measure => simp [intOf]; omega
              · obtain rfl : k5 = 5 := by omega
                go_wp2
                go_ret
                exact ⟨rfl, HL6.out.bl⟩
end journalScans
end Go.Proofs.Ytheojokfgndheaa
