/- Layer 7: JournalSpoilt: a byte of a file turned. -/
import Derived.Test.YtheojokfgndheaaJlSpA
import Derived.Test.YtheojokfgndheaaJlAwake
import Derived.Test.YtheojokfgndheaaJlOpen
import Derived.Test.YtheojokfgndheaaHeld
namespace Go.Proofs.Ytheojokfgndheaa
open Go.RowKit

namespace journalSpoilt
set_option maxRecDepth 100000 in
set_option maxHeartbeats 1000000 in
theorem walk (A : Option Addr) (n c at_ turn : Nat) (w : World) (hr : RdW w w.heap.size A n) (hnm : n ≤ maxLen) (hnc : n ≤ c) (hat : at_ < 65536) (hturn : turn < 256) :
    Calls Try.prog 6 #[.slice A n c, .int .u16 at_, .int .u8 turn] w fun e w' => e = .returned (.bool true) ∧ Below w.heap.size w w' := by
  obtain ⟨i0, hi0, hz0, hz1, hz2⟩ := info_parts Try.infoB
  obtain ⟨i1, hi1, hy0, hy1, hy2⟩ := info_parts Try.infoN7
  obtain ⟨L, hL, hrow⟩ := rdW_list hr
  have HN := Lib.hid hL
  have HR := Lib.hid hrow
  have hnm2 : (n : Int) ≤ 9223372036854775807 := by unfold maxLen at hnm; omega
  clear hr hL hrow hnm
  go_enter Try.func6, Try.ntmps6
  go_wp2_with fail
  refine (awake7_any w).mono ?_
  rintro e w1 ⟨rfl, hb⟩
  have HB := Lib.hid hb
  clear hb
  by_cases h1 : 15 < n
  · have d1 : decide ((15 : Int) < (n : Int)) = true := decide_eq_true (by omega)
    go_wp2
    go_ret
    exact ⟨rfl, HB.out⟩
  by_cases h2 : n = 0
  · subst h2
    go_wp2
    go_ret
    exact ⟨rfl, HB.out⟩
  by_cases h3 : turn = 0
  · subst h3
    have d1 : decide ((15 : Int) < (n : Int)) = false := decide_eq_false (by omega)
    have d2 : ((n : Int) == 0) = false := by simp; omega
    go_wp2
    go_ret
    exact ⟨rfl, HB.out⟩
  have d1 : decide ((15 : Int) < (n : Int)) = false := decide_eq_false (by omega)
  have d2 : ((n : Int) == 0) = false := by simp; omega
  have d3 : ((turn : Int) == 0) = false := by simp; omega
  go_wp2_with fail
  refine (cnew_any _).mono ?_
  rintro e w2 ⟨rfl, hb, hz, hT⟩
  obtain ⟨g, hg⟩ : ∃ g, g = w1.heap.size := ⟨_, rfl⟩
  rw [← hg] at hT hz
  rw [← hg]
  have HL0 : Hid (SpA w w2 w2.heap.size g 0 0 (.slice none 0 0) (.slice none 0 0) (joinR (L.take 0)) (endsR L 0)) := ⟨World.ownsRow_nil _ _ _ _, World.ownsRow_nil _ _ _ _, fun i hi => by simp [Value.ownBlock] at hi, rfl, ⟨0, 0, 0, by decide, Nat.le_refl _, Nat.le_refl _, hT⟩, by omega, Nat.le_refl _, by rw [hg]; exact HB.out.size, HB.out.trans (hb.mono HB.out.size)⟩
  clear hb hz hT hg
  go_wp2
  go_loopw [8, 9, 40] (fun bv ev iv wx => ∃ (k m : Nat), k ≤ n ∧ m ≤ 68 * k ∧ iv = .int .i64 k ∧ Hid (SpA w wx w2.heap.size g k m bv ev (joinR (L.take k)) (endsR L k))) (fun _ _ iv _ => n - (intOf iv).toNat)
  case atStart => exact ⟨0, 0, Nat.zero_le _, Nat.le_refl _, rfl, HL0.out⟩
  case round =>
    obtain ⟨k, m, hk, hm, rfl, HL⟩ := hrel
    by_cases hlt : k < n
    · obtain ⟨x, hx⟩ : ∃ x, L[k]? = some x := ⟨L[k]'(by rw [← HN.out]; exact hlt), List.getElem?_eq_getElem _⟩
      obtain ⟨b, o, rfl, hbl, hrow⟩ := HR.out.row (by rw [← HN.out]; omega)
      obtain ⟨Ar, cr, hcx, hxm, hnil, hrd⟩ := hrow k x hx
      have hox : OkB x := HR.out.ok x (List.mem_iff_getElem?.2 ⟨k, hx⟩)
      have x0 := (HL.out.bl.cell (p := ⟨b, o + k, none⟩) hbl).trans hcx
      obtain ⟨xl, hxl⟩ : ∃ xl, xl = x.length := ⟨_, rfl⟩
      rw [← hxl] at x0 hxm hnil
      have Hxl := Lib.hid hxl
      have Hx := Lib.hid hx
      have Hrd : Hid (∀ W, Below w.heap.size w W → RdB W w.heap.size Ar x) := fun W hW => hrd.below hW
      have Hox := Lib.hid hox
      have Hoff : Hid (Off Ar g x) := fun h0 a ha e => by
        obtain ⟨b', o', e', hb', _⟩ := hrd h0
        rw [ha] at e'
        injection e' with e'
        rw [e'] at e
        have : b' = g := e
        have := HL.out.wg
        omega
      clear hcx hrd hox hrow hxl hx hxm
      by_cases h60 : 60 < xl
      · have d4 : decide ((60 : Int) < (xl : Int)) = true := decide_eq_true (by omega)
        go_wp2
        go_ret
        exact ⟨rfl, HL.out.bl⟩
      · have d4 : decide ((60 : Int) < (xl : Int)) = false := decide_eq_false (by omega)
        obtain ⟨d, s, t, hd, hs, ht, hT⟩ := HL.out.tab
        have HT := Lib.hid hT
        obtain ⟨Av, cv, rfl⟩ := ownB_slice HL.out.own
        obtain ⟨Ae, ce, rfl⟩ := ownB_slice HL.out.ends
        clear hT
        go_wp2_with fail
        refine (jlay_any g d s t hd Ar xl cr x w.heap.size wr HT.out Hxl.out (by omega) (by omega) (by omega) (Hrd.out _ HL.out.bl) HL.out.bl.size Hox.out Hoff.out).mono ?_
        rintro e w4 ⟨vy, rfl, hoy, hty, hTy⟩
        obtain ⟨Ay, cy, rfl⟩ := ownB_slice hoy
        obtain ⟨y1, y2, -⟩ := rdB_of_own hoy
        have Hsy : Hid (Src w4 Ay (xl + 8) 1 (cellsB (laidR x))) := src_of_rdB y1 y2
        have HB4 : Hid (Below w.heap.size w w4) := HL.out.bl.trans ⟨hty.grown.os, hty.grown.tape, hty.grown.output, hty.grown.size, fun k hk => hty.grown.block k (Nat.lt_of_lt_of_le hk HL.out.bl.size) (fun e => by injection e with e; have := HL.out.wg; omega)⟩
        have HO4 := Lib.hid (hty.only.own HL.out.own (fun i hi e => by have := (HL.out.own.lt i hi).1; have := HL.out.gB; have e : i = g := e; omega))
        have HE4 := Lib.hid (hty.only.own HL.out.ends (fun i hi e => by have := (HL.out.ends.lt i hi).1; have := HL.out.gB; have e : i = g := e; omega))
        have hB4 : Hid (w2.heap.size ≤ w4.heap.size) := Nat.le_trans HL.out.hB hty.grown.size
        have HTy := Lib.hid hTy
        have Hty := Lib.hid hty.only
        obtain ⟨m6, hm6⟩ : ∃ m6, m + (xl + 8) = m6 := ⟨_, rfl⟩
        have hmb : m6 ≤ 68 * (k + 1) := by omega
        have Hm6 := Lib.hid hm6
        clear hty hTy hoy y1 y2 hm6
        go_wp2_with (at_builtin; first
          | (have h9 := HE6.out
             refine wpList_append_src (base := w2.heap.size) rfl _ _ rfl Try.underlying45 hi1 hy0 hy1 hy2 rfl (by decide) rfl h9 rfl Hs6.out (fun u hu => by simp at hu; rw [hu]; rfl) (by unfold maxLen; omega) (by omega) HB6a.out ?_
             clear h9
             intro v7 w7 ho7 hg7 hb7
             have HL7 : Hid (SpA w w7 w2.heap.size g (k + 1) m6 (.slice A6 m6 c6) v7 (joinR (L.take (k + 1))) (endsR L (k + 1))) := HL.out.step Hx.out Hty.out HTy.out (by omega) (by omega) (by rw [← Hxl.out]; exact Hm6.out) Ho6.out Hg6.out Hb6.out ho7 hg7 hb7
             clear ho7 hg7 hb7)
          | (refine wpList_append_src (base := w2.heap.size) rfl _ _ rfl Try.underlying30 hi0 hz0 hz1 hz2 rfl (by decide) rfl HO4.out rfl Hsy.out (cellsB_one _) (by unfold maxLen; omega) (by omega) hB4.out ?_
             intro v6 w6 ho6 hg6 hb6
             rw [Hm6.out] at ho6
             obtain ⟨A6, c6, rfl⟩ := ownB_slice ho6
             have Ho6 := Lib.hid ho6
             have Hg6 : Hid (w4.grownBy w6 (Value.slice Av m cv).ownBlock) := hg6
             have Hb6 : Hid ((Value.slice A6 m6 c6).ownBlock = (Value.slice Av m cv).ownBlock ∨ (Value.slice A6 m6 c6).ownBlock = some w4.heap.size) := hb6
             have HE6 := Lib.hid (HL.out.mid (o := .cells #[.int .i64 (m6 : Int)] 3) Hty.out Hg6.out)
             have Hs6 := Lib.hid (src_one7 w6 m6)
             have HB6a : Hid (w2.heap.size ≤ (w6.alloc (.cells #[.int .i64 (m6 : Int)] 3)).heap.size) := Nat.le_trans hB4.out (Nat.le_trans Hg6.out.size ((Below.refl w6.heap.size w6).alloc (Nat.le_refl _) _).size)
             clear ho6 hg6 hb6))
        go_roundw
        case rel => exact ⟨k + 1, m6, by omega, hmb, by go_num, HL7.out⟩
        case measure => simp [intOf]; omega
    · obtain rfl : k = n := by omega
      obtain ⟨Av, cv, rfl⟩ := ownB_slice HL.out.own
      obtain ⟨Ae, ce, rfl⟩ := ownB_slice HL.out.ends
      have hmm : 0 < m := by
        have := joinR_ge (L.take k)
        rw [← HL.out.len, List.length_take, ← HN.out] at this
        omega
      obtain ⟨r, cap, hv, hrB, hrl⟩ := HL.out.own.form (by omega)
      injection hv with hv hv2 hv3
      subst hv
      clear hv2 hv3
      obtain ⟨re, cap2, hv, hreB, hrel⟩ := HL.out.ends.form (by omega)
      injection hv with hv hv2 hv3
      subst hv
      clear hv2 hv3
      obtain ⟨bl, hbl⟩ : ∃ bl, bl = joinR (L.take k) := ⟨_, rfl⟩
      have Hbl := Lib.hid hbl
      rw [← hbl] at HL
      clear hbl
      obtain ⟨q, hq⟩ : ∃ q, q = at_ % m := ⟨_, rfl⟩
      have hqm : q < m := by rw [hq]; exact Nat.mod_lt _ (by omega)
      have hwa : IntKind.i64.wrap (at_ : Int) = at_ := by rw [IntKind.wrap_i64]; omega
      have hwq : IntKind.i64.wrap (q : Int) = q := by rw [IntKind.wrap_i64]; omega
      have ha1 : (at_ : Int).tmod (m : Int) = (q : Int) := by rw [Int.tmod_eq_emod_of_nonneg (by omega), hq]; rfl
      have ha2 : (at_ : Int) % (m : Int) = (q : Int) := by rw [hq]; rfl
      have hmne : (m : Int) ≠ 0 := by omega
      obtain ⟨x, hx⟩ : ∃ x, x = bl.getD q 0 := ⟨_, rfl⟩
      have hxq : bl[q]? = some x := by rw [hx, List.getD_eq_getElem?_getD, List.getElem?_eq_getElem (by rw [← HL.out.len]; exact hqm)]; rfl
      have hok : OkB bl := by
        rw [Hbl.out]
        intro y hy
        obtain ⟨c, hc, hy⟩ := List.mem_flatMap.1 hy
        exact laidR_ok (HR.out.ok c (List.mem_of_mem_take hc)) y hy
      have hx256 : x < 256 := hok x (List.mem_iff_getElem?.2 ⟨q, hxq⟩)
      have hcell : wr.cell? ⟨r, q, none⟩ = some (.int .u8 x) := by
        have := HL.out.own.cells (g := r) rfl q _ (cellsB_get hxq)
        rw [Addr.add_lit, Nat.zero_add] at this
        exact this
      have hfz : wr.frozen? ⟨r, q, none⟩ = false := by
        rcases HL.out.own.2 with ⟨e1, _⟩ | ⟨g', cap', cur, e1, _, h2, _⟩
        · cases e1
        · injection e1 with e1
          injection e1 with e1
          have e1 : r = g' := congrArg Addr.block e1
          subst e1
          simp [World.frozen?, h2]
      have hx8 : bits .xor .u8 (x : Int) (turn : Int) = ((x ^^^ turn : Nat) : Int) := u8_xor_nat x turn hx256 hturn
      have Hok := Lib.hid hok
      have HL8 : Hid (SpA w (wr.setCell ⟨r, q, none⟩ (.int .u8 ((x ^^^ turn : Nat) : Int))) w2.heap.size g k m (.slice (some ⟨r, 0, none⟩) m cv) (.slice (some ⟨re, 0, none⟩) k ce) (turnB bl q turn) (endsR L k)) := by
        have := HL.out.turned (j := q) (d := turn)
        rw [← hx] at this
        exact this
      clear hq hx hxq hx256 hok
      go_wp2
      go_loopw [15] (fun jv wx => ∃ j : Nat, j ≤ k ∧ jv = .int .i64 j ∧ Hid ((joinR (L.take j)).length ≤ q) ∧ Hid (SpA w wx w2.heap.size g k m (.slice (some ⟨r, 0, none⟩) m cv) (.slice (some ⟨re, 0, none⟩) k ce) (turnB bl q turn) (endsR L k))) (fun jv _ => k - (intOf jv).toNat)
      case atStart => exact ⟨0, Nat.zero_le _, rfl, (by show (joinR (L.take 0)).length ≤ q; simp [joinR]), HL8.out⟩
      case round =>
        obtain ⟨j, hj, rfl, hle, HS⟩ := hrel
        by_cases hjk : j < k
        rotate_left
        · exfalso
          have e1 : j = k := by omega
          have e2 := hle.out
          rw [e1, ← Hbl.out, ← HL.out.len] at e2
          omega
        obtain ⟨ej, hej⟩ : ∃ ej, ej = (joinR (L.take (j + 1))).length := ⟨_, rfl⟩
        have hce : wr.cell? ⟨re, j, none⟩ = some (.int .i64 ej) := by
          have := HS.out.ends.cells (g := re) rfl j _ (cellsN7_get (endsR_get L hjk))
          rw [Addr.add_lit, Nat.zero_add, ← hej] at this
          exact this
        have Hej := Lib.hid hej
        clear hej
        by_cases hq2 : ej ≤ q
        · go_wp2
          go_roundw
          case rel => exact ⟨j + 1, by omega, by go_num, (by show (joinR (L.take (j + 1))).length ≤ q; rw [← Hej.out]; exact hq2), HS.out⟩
          case measure => simp [intOf]; omega
        · go_wp2_with fail
          refine (new_any _).mono ?_
          rintro e w7 ⟨rfl, h5⟩
          have D7 := Lib.hid (h5 ▸ Disk.new wr : Disk w7 (fun k => k = wr.heap.size) wr.heap.size [] 0 0)
          have HB7 : Hid (Below wr.heap.size wr w7) := by rw [h5]; exact (Below.refl _ _).alloc (Nat.le_refl _) _
          obtain ⟨gd, hgd⟩ : ∃ gd, gd = wr.heap.size := ⟨_, rfl⟩
          rw [← hgd] at D7
          rw [← hgd]
          have Hgd := Lib.hid hgd
          clear h5 hgd
          have Hown7 := Lib.hid (ownB_below HS.out.own HB7.out)
          go_wp2_with fail
          obtain ⟨y1, y2, -⟩ := rdB_of_own Hown7.out
          have hokt := turnB_ok Hok.out q hturn
          refine (append_ok (l := turnB bl q turn) _ D7.out (by decide +kernel) nmJ_size (fun _ => by decide) y2 hokt (by show 0 + m ≤ _; omega) y1 (by decide)).mono ?_
          rintro e w8 ⟨rfl, S8, hD8, hst8⟩
          obtain ⟨tb, htb⟩ : ∃ tb, tb = turnB bl q turn := ⟨_, rfl⟩
          have HD8 : Hid (Disk w8 S8 gd [(nmJ, ⟨tb, 0⟩)] 1 0) := by rw [htb]; exact hD8
          have Htb := Lib.hid htb
          have Hst8 := Lib.hid hst8
          have Hok8 : Hid (tb.length = m) := by show tb.length = m; rw [htb]; exact y2.symm
          clear y1 y2 hokt hD8 hst8 htb
          obtain ⟨G, z, hG⟩ : ∃ G z, scanJ tb = (G, z) := ⟨_, _, rfl⟩
          have HG := Lib.hid hG
          clear hG
          obtain ⟨d, s, t, hd, hs, ht, hT⟩ := HS.out.tab
          have hgw : g < wr.heap.size := Nat.lt_of_lt_of_le HS.out.gB HS.out.hB
          have HT8 : Hid (Tab w8 g d s t) := (hT.below HB7.out).only Hst8.out.only (fun e => by have e : g = gd := e; have := Hgd.out; omega)
          have HnS : Hid (¬ S8 g) := fun e => by
            rcases Hst8.out.new g e with h | h
            · have h : g = gd := h; have := Hgd.out; omega
            · have := HB7.out.size; omega
          have hfind : findP [(nmJ, (⟨tb, 0⟩ : Fl))] nmJ = some ⟨tb, 0⟩ := findP_one _ _
          clear hT
          go_wp2_with fail
          refine (jopen_some nmJ ⟨tb, 0⟩ w8 HD8.out HT8.out hd HnS.out (by omega) (by omega) nmJ_size hfind (by decide)).mono ?_
          rw [HG.out]
          rintro e w9 ⟨v9, S9, rfl, hRs, hO⟩
          obtain ⟨A9, c9, rfl⟩ : ∃ A c, v9 = .slice A G.length c := hRs.slice
          have HRs : Hid (Rs w9 w8.heap.size g (.slice A9 G.length c9) G) := hRs
          have HO9 : Hid (Opened w8 w9 S8 S9 gd g nmJ (putP [(nmJ, ⟨tb, 0⟩)] nmJ ⟨tb.take z, z⟩) 1 1 d s t tb.length) := hO
          clear hRs hO hfind
          go_wp2_with fail
          refine (read_some w9 HO9.out.dk nmJ_size (findP_set _ _ _)).mono ?_
          rintro e w10 ⟨v10, rfl, ho10, hb10⟩
          have Ho10 : Hid (w10.ownsRow w9.heap.size 5 1 v10 (tb.take z).length (cellsB (tb.take z))) := ho10
          have Hb10 := Lib.hid hb10
          clear ho10 hb10
          have hwg := HS.out.wg
          have Hall : Hid (Only (fun i => i = g ∨ wr.heap.size ≤ i) wr w10) := by
            have o1 : Only (fun i => i = g ∨ wr.heap.size ≤ i) wr w8 := (Only.of_below HB7.out _).trans Hst8.out.only (fun i h => .inl (by have h : i = gd := h; have := Hgd.out; omega))
            have o2 := o1.trans HO9.out.only (fun i h => by
              rcases h with h | h
              · rcases Hst8.out.new i h with h' | h'
                · have h' : i = gd := h'; have := Hgd.out; exact .inl (.inr (by omega))
                · have := HB7.out.size; exact .inl (.inr (by omega))
              · exact .inl (.inl h))
            exact o2.trans (Only.of_below Hb10.out (fun i => i = g ∨ wr.heap.size ≤ i)) (fun i h => .inl h)
          have HBl : Hid (Below w.heap.size w w10) := HS.out.bl.trans (Hall.out.below HS.out.bl.size (fun i h => by have := HS.out.bl.size; omega))
          obtain ⟨st, hst⟩ : ∃ st, st = (joinR (L.take j)).length := ⟨_, rfl⟩
          have hsq : st ≤ q := by rw [hst]; exact hle.out
          have hends : ∀ i, i + 1 = j → w10.cell? ⟨re, i, none⟩ = some (.int .i64 st) := fun i hi => by
            have h1 := HS.out.ends.cells (g := re) rfl i _ (cellsN7_get (endsR_get L (show i < k by omega)))
            rw [Addr.add_lit, Nat.zero_add, hi, ← hst] at h1
            have h2 := HS.out.ends.lt re rfl
            exact (Hall.out.cell (p := ⟨re, i, none⟩) h2.2 (fun e => by
              have e : re = g ∨ wr.heap.size ≤ re := e
              have := HS.out.gB
              omega)).trans h1
          have Hends := Lib.hid hends
          have Hst := Lib.hid hst
          clear hends hst
          go_upto_if 105 with fail
          go_cut [22] from 106 to 110 (fun sv wx => sv = .int .i64 st ∧ Hid (wx = w10))
          case first =>
            by_cases hj0 : 0 < j
            · obtain ⟨j', rfl⟩ : ∃ j', j = j' + 1 := ⟨j - 1, by omega⟩
              have hce2 := Hends.out j' rfl
              have hw1 : IntKind.i64.wrap (((j' + 1 : Nat) : Int) - 1) = (j' : Int) := by rw [IntKind.wrap_i64]; omega
              have hw2 : IntKind.i64.wrap ((j' : Int) + 1 - 1) = (j' : Int) := by rw [IntKind.wrap_i64]; omega
              go_wp2
              go_meet
              exact ⟨rfl, rfl⟩
            · have hst0 : st = 0 := by rw [Hst.out, show j = 0 by omega]; simp [joinR]
              have Hst0 := Lib.hid hst0
              clear hst0
              go_wp2
              go_meet
              exact ⟨by rw [Hst0.out]; rfl, rfl⟩
          case rest =>
            obtain ⟨rfl, hw10⟩ := hcut
            have hw := hw10.out.symm
            subst hw
            clear hw10
            have hkL : L.take k = L := List.take_of_length_le (by rw [← HN.out]; exact Nat.le_refl _)
            have hOkR : OkR L := fun y hy => ⟨HR.out.ok y hy, by
              have h1 := joinR_mem hy
              have h2 := HL.out.len
              rw [Hbl.out, hkL] at h2
              omega⟩
            have hsc := spoilt_scan hOkR hle.out (show q < (joinR (L.take (j + 1))).length by rw [← Hej.out]; omega) (show j < L.length by rw [← HN.out]; exact hjk) (show 0 < turn by omega) hturn
            rw [← hkL, ← Hbl.out, ← Htb.out, HG.out, hkL] at hsc
            obtain ⟨⟨G', z', hz'⟩, hsc2⟩ := hsc
            rw [← Hst.out] at hsc2
            injection hz' with hg1 hg2
            have hjl : (L.take j).length = j := by rw [List.length_take, ← HN.out]; omega
            have hgt : G.take j = L.take j := by rw [hg1, List.take_append_of_le_length (by omega), List.take_take, Nat.min_self]
            obtain ⟨nG, hnG⟩ : ∃ nG, nG = G.length := ⟨_, rfl⟩
            have hgj : j ≤ nG := by rw [hnG, hg1, List.length_append]; omega
            have hcap9 : nG ≤ c9 := by
              obtain ⟨X, hX⟩ := HRs.out
              rw [hnG]
              exact own_cap7 hX.own
            rw [← hnG]
            have HnG := Lib.hid hnG
            have Hgt := Lib.hid hgt
            have Hsc2 := Lib.hid hsc2
            have Hjl := Lib.hid hjl
            have HR9 : Hid (RdL w10 A9 G) := (HRs.out.below Hb10.out).rdL.1
            have HRl : Hid (RdL w10 A (L.take j)) := (HR.out.rdL HBl.out).pre j
            have HslL : Hid (∀ W : World, (Instr.sliceAt 55 (.slice A k c) none (some (.int .i64 j)) none).run Try.prog W = .ok (.slice A j c) W) := fun W => slL_h A k c j (j : Int) rfl (by omega) W
            obtain ⟨pq, hpq⟩ : ∃ pq, pq = q - st := ⟨_, rfl⟩
            have hsub : IntKind.i64.wrap ((q : Int) - (st : Int)) = (pq : Int) := by rw [IntKind.wrap_i64]; omega
            have Hpq := Lib.hid hpq
            clear hkL hOkR hg1 hg2 hjl hgt hnG hsc2 hpq
            by_cases h4 : pq < 4
            · have HslG : Hid (∀ W : World, (Instr.sliceAt 55 (.slice A9 nG c9) none (some (.int .i64 j)) none).run Try.prog W = .ok (.slice A9 j c9) W) := fun W => slL_h A9 nG c9 j (j : Int) rfl (by omega) W
              go_upto_region 30 with fail
              refine wp_region_noPanic ?_
              refine wp_region_held_drew (S := fun W => Below w10.heap.size w10 W) (by kernel_rfl) ?_ (fun hHeld => ?_)
              · exact (Below.refl _ _).drew
              try simp only [heldPut, List.set]
              refine heldTake (i := 0) (v := ?_) rfl (by kernel_rfl) (by kernel_rfl) (by kernel_rfl) (fun _ _ _ h => h) (Or.inl ⟨by rfl, ?_⟩) (by assumption) ?_
              rotate_left
              · (intro W hSw; (try dsimp only at hSw);  go_simp; try with_reducible rfl)
              try simp only [heldPut, List.set]
              refine heldTake (i := 1) (v := ?_) rfl (by kernel_rfl) (by kernel_rfl) (by kernel_rfl) (fun _ _ _ h => h) (Or.inl ⟨by rfl, ?_⟩) (by assumption) ?_
              rotate_left
              · (intro W hSw; (try dsimp only at hSw);  go_simp; try with_reducible rfl)
              try simp only [heldPut, List.set]
              refine heldTake (i := 2) (v := ?_) rfl (by kernel_rfl) (by kernel_rfl) (by kernel_rfl) (fun _ _ _ h => h) (Or.inl ⟨by rfl, ?_⟩) (by assumption) ?_
              rotate_left
              · (intro W hSw; (try dsimp only at hSw);  go_simp; try with_reducible rfl)
              try simp only [heldPut, List.set]
              refine heldTake (i := 3) (v := ?_) rfl (by kernel_rfl) (by kernel_rfl) (by kernel_rfl) (fun _ _ _ h => h) (Or.inl ⟨by rfl, ?_⟩) (by assumption) ?_
              rotate_left
              · (intro W hSw; (try dsimp only at hSw);  go_simp; try with_reducible rfl)
              try simp only [heldPut, List.set]
              refine heldTake (i := 4) (v := ?_) rfl (by kernel_rfl) (by kernel_rfl) (by kernel_rfl) (fun _ _ _ h => h) (Or.inl ⟨by rfl, ?_⟩) (by assumption) ?_
              rotate_left
              · (intro W hSw; (try dsimp only at hSw);  go_simp; try with_reducible rfl)
              try simp only [heldPut, List.set]
              refine heldTake (i := 5) (v := ?_) rfl (by kernel_rfl) (by kernel_rfl) (by kernel_rfl) (fun _ _ _ h => h) (Or.inl ⟨by rfl, ?_⟩) (by assumption) ?_
              rotate_left
              · (intro W hSw; (try dsimp only at hSw);  go_simp; try with_reducible rfl)
              try simp only [heldPut, List.set]
              refine heldTake (i := 6) (v := ?_) rfl (by kernel_rfl) (by kernel_rfl) (by kernel_rfl) (fun _ _ _ h => h) (Or.inl ⟨by rfl, ?_⟩) (by assumption) ?_
              rotate_left
              · (intro W hSw; (try dsimp only at hSw);  go_simp; try with_reducible rfl)
              try simp only [heldPut, List.set]
              refine heldTake (i := 7) (v := ?_) rfl (by kernel_rfl) (by kernel_rfl) (by kernel_rfl) (fun _ _ _ h => h) (Or.inl ⟨by rfl, ?_⟩) (by assumption) ?_
              rotate_left
              · (intro W hSw; (try dsimp only at hSw);  go_simp; try with_reducible rfl)
              try simp only [heldPut, List.set]
              refine heldTake (i := 8) (v := ?_) rfl (by kernel_rfl) (by kernel_rfl) (by kernel_rfl) (fun _ _ _ h => h) (Or.inl ⟨by rfl, ?_⟩) (by assumption) ?_
              rotate_left
              · (intro W hSw; (try dsimp only at hSw);  go_simp; try with_reducible rfl)
              try simp only [heldPut, List.set]
              refine heldTake (i := 9) (v := ?_) rfl (by kernel_rfl) (by kernel_rfl) (by kernel_rfl) (fun _ _ _ h => h) (Or.inl ⟨by rfl, ?_⟩) (by assumption) ?_
              rotate_left
              · (intro W hSw; (try dsimp only at hSw);  go_simp; try with_reducible rfl)
              try simp only [heldPut, List.set]
              refine heldTake (i := 10) (v := ?_) rfl (by kernel_rfl) (by kernel_rfl) (by kernel_rfl) (fun _ _ _ h => h) (Or.inl ⟨by rfl, ?_⟩) (by assumption) ?_
              rotate_left
              · (intro W hSw; (try dsimp only at hSw);  go_simp; try with_reducible rfl)
              try simp only [heldPut, List.set]
              refine heldTake (i := 11) (v := ?_) rfl (by kernel_rfl) (by kernel_rfl) (by kernel_rfl) (fun _ _ _ h => h) (Or.inl ⟨by rfl, ?_⟩) (by assumption) ?_
              rotate_left
              · (intro W hSw; (try dsimp only at hSw); have fg := HslG.out W; go_simp; try with_reducible rfl)
              try simp only [heldPut, List.set]
              refine heldTake (i := 12) (v := ?_) rfl (by kernel_rfl) (by kernel_rfl) (by kernel_rfl) (fun _ _ _ h => h) (Or.inl ⟨by rfl, ?_⟩) (by assumption) ?_
              rotate_left
              · (intro W hSw; (try dsimp only at hSw);  go_simp; try with_reducible rfl)
              try simp only [heldPut, List.set]
              refine heldTake (i := 13) (v := ?_) rfl (by kernel_rfl) (by kernel_rfl) (by kernel_rfl) (fun _ _ _ h => h) (Or.inl ⟨by rfl, ?_⟩) (by assumption) ?_
              rotate_left
              · (intro W hSw; (try dsimp only at hSw);  go_simp; try with_reducible rfl)
              try simp only [heldPut, List.set]
              refine heldTake (i := 14) (v := ?_) rfl (by kernel_rfl) (by kernel_rfl) (by kernel_rfl) (fun _ _ _ h => h) (Or.inl ⟨by rfl, ?_⟩) (by assumption) ?_
              rotate_left
              · (intro W hSw; (try dsimp only at hSw); have fl := HslL.out W; go_simp; try with_reducible rfl)
              try simp only [heldPut, List.set]
              refine heldOne (i := 15) rfl (by kernel_rfl) (fun K hK => ?_)
              go_simp
              refine (same7_any A9 j c9 (G.take j) A j c (L.take j) _ (by rw [Hgt.out]; exact Hjl.out.symm) Hjl.out.symm ((HR9.out.pre j).keep hHeld) (HRl.out.keep hHeld) (by omega)).mono ?_
              rintro e w5 ⟨he, hb5⟩
              have he : e = .returned (.bool true) := by rw [he, Hgt.out]; simp
              subst he
              have HB5 : Hid (Below w10.heap.size w10 w5) := hHeld.trans (hb5.mono hHeld.size)
              clear hb5
              go_wp2_with fail
              refine hK.out _ _ ?_ (fun hHeld => ?_)
              · exact HB5.out
              clear hK K
              try simp only [heldPut, List.set]
              refine heldTake (i := 16) (v := ?_) rfl (by kernel_rfl) (by kernel_rfl) (by kernel_rfl) (fun _ _ _ h => h) (Or.inl ⟨by rfl, ?_⟩) (by assumption) ?_
              rotate_left
              · (intro W hSw; (try dsimp only at hSw);  go_simp; try with_reducible rfl)
              try simp only [heldPut, List.set]
              refine heldTake (i := 17) (v := ?_) rfl (by kernel_rfl) (by kernel_rfl) (by kernel_rfl) (fun _ _ _ h => h) (Or.inl ⟨by rfl, ?_⟩) (by assumption) ?_
              rotate_left
              · (intro W hSw; (try dsimp only at hSw);  go_simp; try with_reducible rfl)
              try simp only [heldPut, List.set]
              refine wpAnyH_done (by kernel_rfl) ?_ _
              refine NoPanic.normal ?_
              go_wp2
              go_ret
              exact ⟨rfl, HBl.out.trans (HB5.out.mono HBl.out.size)⟩
            · have e4 := Hsc2.out (by have := Hpq.out; omega)
              injection e4 with g1 g2
              have hlz : (tb.take z).length = st := by
                have h1 := Hok8.out
                rw [List.length_take, g2]
                omega
              obtain ⟨A10, c10, rfl⟩ : ∃ A' c', v10 = .slice A' st c' := by
                have := ownB_slice Ho10.out
                rwa [hlz] at this
              have hGL : Hid (G = L.take j) := g1
              have hz0 : Hid ((tb.take z).length - z = 0) := by show _ - _ = 0; rw [hlz, g2]; exact Nat.sub_self _
              clear g1 g2 hlz
              have fl := HslL.out
              have hn15 : nG ≤ 15 := by rw [HnG.out, hGL.out, Hjl.out]; omega
              have hHeld : Below w10.heap.size w10 w10 := Below.refl _ _
              go_wp2_with fail
              refine (same7_any A9 nG c9 G A j c (L.take j) _ HnG.out Hjl.out.symm (HR9.out.keep hHeld) (HRl.out.keep hHeld) (by omega)).mono ?_
              rintro e w5 ⟨he, hb5⟩
              have he : e = .returned (.bool true) := by rw [he, hGL.out]; simp
              subst he
              have HB5 : Hid (Below w10.heap.size w10 w5) := hHeld.trans (hb5.mono hHeld.size)
              clear hb5
              go_wp2_with fail
              have hHeld : Below w10.heap.size w10 w5 := HB5.out
              refine (loose_some _ ((HO9.out.dk.below Hb10.out).below hHeld) nmJ_size (findP_set _ _ _)).mono ?_
              rintro e w6 ⟨he, hb6⟩
              have he : e = .returned (.int .i64 0) := by rw [he]; show Ending.returned (.int .i64 (((tb.take z).length - z : Nat) : Int)) = _; rw [hz0.out]; rfl
              subst he
              have HB6 : Hid (Below w10.heap.size w10 w6) := hHeld.trans (hb6.mono hHeld.size)
              clear hb6
              go_wp2
              go_ret
              exact ⟨rfl, HBl.out.trans (HB6.out.mono HBl.out.size)⟩
end journalSpoilt
end Go.Proofs.Ytheojokfgndheaa
