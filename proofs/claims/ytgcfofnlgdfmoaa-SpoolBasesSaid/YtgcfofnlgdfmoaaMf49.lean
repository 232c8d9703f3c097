/- Several texts in one: SpoolBases. -/
import Derived.Deep.CutRange
import Derived.Deep.CutBlock
import Derived.Test.YtgcfofnlgdfmoaaMf47
import Derived.Test.YtgcfofnlgdfmoaaMf48
/- Layer 8: SpoolBases: what a spool is made of, with something turned, is a spool or an error, never one that isn't right. -/
namespace Go.Proofs.Ytgcfofnlgdfmoaa
open Go.RowKit

namespace spoolBases
set_option maxRecDepth 100000 in
set_option maxHeartbeats 8000000 in
theorem walk (q0 : Nat) (hq0 : q0 < 65536) (A : Option Addr) (n c : Nat) (l : List Sm) (hn : n = l.length) (hm : n ≤ maxLen) (hok : ∀ s ∈ l, OkS s) (wh : Nat) (hwh : wh < 256) (at_ : Nat) (hat : at_ < 256) (N : Nat) (hN : N < 18446744073709551616) (w : World) (hrd : RdM w w.heap.size A l) :
    Calls Try.prog 6 #[.int .u16 q0, .slice A n c, .int .u8 wh, .int .u8 at_, .int .u64 N] w fun e w' => e = .returned (.bool true) ∧ Below w.heap.size w w' := by
  unfold maxLen at hm
  have hwq : (q0 : Int).tmod 300 = ((q0 % 300 : Nat) : Int) := by rw [Int.tmod_eq_emod_of_nonneg (by omega)]; rfl
  obtain ⟨r, hr⟩ : ∃ r, r = q0 % 300 := ⟨_, rfl⟩
  rw [← hr] at hwq
  have hr300 : r < 300 := by omega
  have HN := Lib.hid hn
  have HOK := Lib.hid hok
  have HRd := Lib.hid hrd
  have hmf : ∀ (fn : Fn) (first cap : Array Value) (w : World), (Instr.makeFunc fn first cap).run Try.prog w = .ok (.func fn first cap) w := fun _ _ _ _ => rfl
  clear hn hok hrd hr
  go_enter Try.func6, Try.ntmps6
  go_wp2_with fail
  refine (awake8_any w).mono ?_
  rintro _ w1 ⟨rfl, hb1⟩
  have HB1 := Lib.hid hb1
  clear hb1
  go_wp2_with fail
  refine (new64 r (by omega) w w1 HB1.out).mono ?_
  rintro _ w2 ⟨rfl, hs2⟩
  obtain ⟨s, hs⟩ : ∃ s, s = w1.heap.size := ⟨_, rfl⟩
  rw [← hs] at hs2 ⊢
  have HS2 := Lib.hid hs2
  have HF2 : Hid (Full ⟨64 + r, 1, 0, 0, fun _ => 0⟩ [] 0) := ⟨SpOk.new _, ⟨fun _ => rfl, fun _ h => by cases h⟩, Nat.zero_le _⟩
  clear hs hs2 hwq HB1
  go_wp2_with fail
  go_loopw [44] (fun iv wx => ∃ (k : Nat) (S : Nat → Prop) (X : Sp) (L : List Ett), k ≤ n ∧ iv = .int .i64 k ∧ Hid (SpW w wx S s (64 + r) (min k 30) X L) ∧ Hid (Full X L (min k 30))) (fun iv _ => n - (intOf iv).toNat)
  case atStart => exact ⟨0, _, _, _, Nat.zero_le _, rfl, HS2.out, HF2.out⟩
  case round =>
    obtain ⟨k, S, X, L, hk, rfl, HS, HF⟩ := hrel
    clear HS2 HF2
    by_cases hlt : k < n
    · have q1 : decide ((k : Int) < (n : Int)) = true := decide_eq_true (by omega)
      have q2 : decide (k < n) = true := decide_eq_true hlt
      obtain ⟨b, off, m, rfl, hbb, hm, hrg⟩ := HRd.out.at_ (k := k) (by rw [← HN.out]; exact hlt)
      have hrg2 := range_keep hrg (HS.out.bl.block _ hbb)
      have HM := Lib.hid (HOK.out m (List.mem_of_getElem? hm))
      clear hm hbb hrg
      go_upto_region 8 with (first
        | (refine wpList_load_mid rfl _ _ rfl b (off + k * 11) rfl (smC m) _ hrg2 Try.underlying51 rfl Try.infoSm ?_)
        | (refine wpList_store_row rfl _ _ _ rfl wr.heap.size _ rfl rfl _ _ (heap_alloc_new _ _) Try.infoSm rfl (by simp [Value.oneCell', smC]) ?_)
        | fail)
      obtain ⟨w3, hw3⟩ : ∃ V, V = (wr.alloc (.cells #[.bool false, .int .u8 0, .int .u8 0, .int .u8 0, .int .u16 0, .int .u16 0, .int .u16 0, .int .u8 0, .int .u8 0, .int .u8 0, .bool false] 51)).setRow wr.heap.size (smC m).toArray := ⟨_, rfl⟩
      rw [← hw3]
      have hX : w3.heap[wr.heap.size]? = some (.cells (smC m).toArray 51 (0, 0)) := by rw [hw3]; exact setRow_heap _ _ _ _ _ _ (heap_alloc_new _ _)
      have hb3 : Below wr.heap.size wr w3 := by rw [hw3]; exact below_setRow ((Below.refl _ _).alloc (Nat.le_refl _) _) (Nat.le_refl _) _
      have HX := Lib.hid hX
      have HS3 := Lib.hid (HS.out.below hb3)
      clear hw3 hX hb3 hrg2 HS q1 q2
      by_cases h40 : k < 30
      · have d1 : decide ((k : Int) < 30) = true := decide_eq_true (by omega)
        have d2 : decide (k < 30) = true := decide_eq_true h40
        go_wp2_with (first | (refine wpList_load_row rfl _ _ rfl wr.heap.size rfl _ _ _ _ HX.out Try.underlying51 rfl Try.infoSm ?_) | fail)
        refine (next_any m HM.out w3 HS3.out.at_ (HS3.out.ok.hs _)).mono ?_
        rintro _ w4 ⟨A4, c4, rfl, hnil, hrd4, hb4⟩
        have hs4 := HS3.out.below hb4
        have hkk : min k 30 < 100000 := by omega
        have HP := Lib.hid (putNext_any m HM.out A4 c4 w4 hs4.at_ hs4.ok hkk hnil hrd4)
        have HS4 := Lib.hid hs4
        clear hnil hrd4 hb4 hs4 HS3 HX
        go_wp2_with fail
        refine HP.out.mono ?_
        rintro _ w5 ⟨A5, c5, S5, rfl, h5, hk5, hst5⟩
        have HS5 := Lib.hid (HS4.out.step h5 hk5 hst5 (putR_q _ _ _ _ _))
        have HF5 := Lib.hid (HF.out.put _ _ _ hk5)
        rw [← min_succ_lt h40] at HS5 HF5
        clear h5 hk5 hst5 HP HS4 HF d1 d2 hkk
        go_wp2_with fail
        exact ⟨⟨k + 1, S5, _, _, by omega, by go_num, HS5.out, HF5.out⟩, by simp [intOf]; omega⟩
      · have d1 : decide ((k : Int) < 30) = false := decide_eq_false (by omega)
        have d2 : decide (k < 30) = false := decide_eq_false h40
        have hmn : min (k + 1) 30 = min k 30 := by omega
        rw [← hmn] at HS3 HF
        clear hmn
        go_wp2_with fail
        exact ⟨⟨k + 1, S, X, L, by omega, by go_num, HS3.out, HF.out⟩, by simp [intOf]; omega⟩
    · have q1 : decide ((k : Int) < (n : Int)) = false := decide_eq_false (by omega)
      have q2 : decide (k < n) = false := decide_eq_false hlt
      have hfull := HF.out.more (show min k 30 ≤ 30 by omega)
      have HFU := Lib.hid hfull
      clear hlt hk hfull HF HRd HOK HN
      go_wp2_with fail
      refine (base_any wr HS.out.at_).mono ?_
      rintro _ w6 ⟨cs, A6, c6, M, rfl, hbs, hsm, hrow, hlab, hb6⟩
      obtain ⟨n6, hn6⟩ : ∃ x, x = M.length := ⟨_, rfl⟩
      rw [← hn6] at hbs hrow
      have HBS := Lib.hid hbs
      have HSM := Lib.hid hsm
      have HROW := Lib.hid hrow
      have HLAB := Lib.hid hlab
      have HN6 := Lib.hid hn6
      have hq : X.q = 64 + r := HS.out.q
      have HQ := Lib.hid hq
      have HBL6 := Lib.hid (HS.out.bl.trans (hb6.mono HS.out.bl.size))
      have hn30 : n6 ≤ 30 := by have h1 := hsm.len; have h2 := HFU.out.ok.len; omega
      have hofk : OfOk (64 + r) X M := by
        have h1 := HFU.out.of (by omega) (by omega)
        rw [hq] at h1
        exact h1.same hsm
      have hright : ∀ e ∈ M, itemN e.x = 0 := fun e he => by
        obtain ⟨y, hy, hx⟩ := same_mem hsm he
        rw [← hx]
        exact (HFU.out.cov.ok y hy).1
      have HOFK := Lib.hid hofk
      have HRIGHT := Lib.hid hright
      have hbw : w.heap.size ≤ wr.heap.size := HS.out.bl.size
      have HBW := Lib.hid hbw
      clear hn6 hbs hsm hrow hlab hq hb6 hofk hright hbw HS HFU
      go_upto_region 12 with (first
        | (refine wpList_store_row rfl _ _ _ rfl w6.heap.size cs.toArray rfl rfl _ _ (heap_alloc_new _ _) HBS.out.infoA HBS.out.size36 HBS.out.one ?_)
        | fail)
      obtain ⟨V, hV, hbx, hbV⟩ := boxB w6 zeroBase cs
      unfold zeroBase at hV
      rw [← hV]
      obtain ⟨g, hg⟩ : ∃ g, g = w6.heap.size := ⟨_, rfl⟩
      rw [← hg] at hbx ⊢
      have hba : BsAt V g X (.slice A6 n6 c6) := BsAt.of hbx HBS.out
      have HBA := Lib.hid hba
      have hgw : w.heap.size ≤ g := by rw [hg]; exact HBL6.out.size
      have HGW := Lib.hid hgw
      have HBLV := Lib.hid (HBL6.out.trans (hbV.mono HBL6.out.size))
      have hrowV : RowE V wr.heap.size (.slice A6 n6 c6) M := ⟨ownB_below HROW.out.own hbV, fun e he => (HROW.out.ok e he).below hbV⟩
      have HROWV := Lib.hid hrowV
      have hgr : ∀ k, (Value.slice A6 n6 c6).ownBlock = some k → k ≠ g := fun k hk => by have := (HROW.out.own.lt k hk).2; omega
      have hlg : ∀ e ∈ M, ∀ a, e.A = some a → 0 < e.x.l.length → a.block < g := fun e he a ha h0 => by
        have h1 := rdP_lt (HROW.out.ok e he).rd ha h0
        omega
      have hbas : Bas w V g wr.heap.size X A6 n6 c6 M := ⟨HBA.out, HROWV.out, HN6.out, by omega, hgr, hlg, HGW.out, HBW.out, HRIGHT.out, HBLV.out⟩
      have HBAS := Lib.hid hbas
      clear hV hbx hbV hg hba hgw hrowV hgr hlg hbas HROW HBL6 HROWV HGW HBLV HBW HRIGHT HBS HSM HLAB HQ
      obtain ⟨-, -, -, -, c35⟩ := HBA.out.cell
      go_upto_if 63 with fail
      go_cut [17] from 64 to 69 (fun p wx => ∃ kk : Nat, p = .int .i64 kk ∧ wx = V ∧ (0 < n6 → kk < n6))
      case first =>
        by_cases h0 : 0 < n6
        · have e1 : decide ((0 : Int) < (n6 : Int)) = true := decide_eq_true (by omega)
          have hw1 : IntKind.i64.wrap (at_ : Int) = (at_ : Int) := by rw [IntKind.wrap_i64]; omega
          have hmod : (at_ : Int).tmod (n6 : Int) = ((at_ % n6 : Nat) : Int) := by rw [Int.tmod_eq_emod_of_nonneg (by omega)]; rfl
          have hne : ¬ ((n6 : Int) = 0) := by omega
          have hne2 : ¬ (n6 = 0) := by omega
          have hlt := Nat.mod_lt at_ h0
          obtain ⟨kk, hkk⟩ : ∃ x, x = at_ % n6 := ⟨_, rfl⟩
          rw [← hkk] at hmod hlt
          clear hkk
          go_wp2_with fail
          go_meet
          exact ⟨kk, rfl, rfl, fun _ => hlt⟩
        · have e1 : decide ((0 : Int) < (n6 : Int)) = false := decide_eq_false (by omega)
          have e2 : decide (0 < n6) = false := decide_eq_false h0
          go_wp2_with fail
          go_meet
          exact ⟨0, rfl, rfl, fun h => absurd h h0⟩
      case rest =>
        obtain ⟨kk, rfl, rfl, hkk⟩ := hcut
        have hwm : (wh : Int).tmod 7 = ((wh % 7 : Nat) : Int) := by rw [Int.tmod_eq_emod_of_nonneg (by omega)]; rfl
        obtain ⟨t7, ht7⟩ : ∃ x, x = wh % 7 := ⟨_, rfl⟩
        have ht77 : t7 < 7 := by omega
        rw [← ht7] at hwm
        clear c35 ht7
        go_upto_block 2 with fail
        go_cut [11, 63, 71] from 72 to 126 (fun p _ _ wx => ∃ (q : Nat) (X2 : Sp) (A2 : Option Addr) (n2 c2 : Nat) (M2 : List Ett), p = .int .i64 q ∧ Hid (Turned w wx g (t7 = 6) q X2 A2 n2 c2 M2))
        case first =>
          have hb := HBAS.out.bs
          obtain ⟨c0, c1, -, ch, c35⟩ := hb.cell
          have f0 := hb.fz 0
          have f1 := hb.fz 1
          have f35 := hb.fz 35
          have hn60 : (N : Int).tmod 60 = ((N % 60 : Nat) : Int) := by rw [Int.tmod_eq_emod_of_nonneg (by omega)]; rfl
          have hn100 : (N : Int).tmod 100 = ((N % 100 : Nat) : Int) := by rw [Int.tmod_eq_emod_of_nonneg (by omega)]; rfl
          have ha8 : (at_ : Int).tmod 8 = ((at_ % 8 : Nat) : Int) := by rw [Int.tmod_eq_emod_of_nonneg (by omega)]; rfl
          obtain ⟨m60, hm60⟩ : ∃ x, x = N % 60 := ⟨_, rfl⟩
          obtain ⟨m100, hm100⟩ : ∃ x, x = N % 100 := ⟨_, rfl⟩
          obtain ⟨m8, hm8⟩ : ∃ x, x = at_ % 8 := ⟨_, rfl⟩
          have b60 : m60 < 60 := by omega
          have b100 : m100 < 100 := by omega
          have b8 : m8 < 8 := by omega
          rw [← hm60] at hn60
          rw [← hm100] at hn100
          rw [← hm8] at ha8
          clear hb hm60 hm100 hm8
          have hsix : ∀ k : Nat, k ≠ 6 → ¬ (k = 6) := fun _ h => h
          obtain h7 | h7 | h7 | h7 | h7 | h7 | h7 : t7 = 0 ∨ t7 = 1 ∨ t7 = 2 ∨ t7 = 3 ∨ t7 = 4 ∨ t7 = 5 ∨ t7 = 6 := by omega
          · rw [h7] at hwm
            go_wp2_with fail
            go_meet
            exact ⟨64 + r, _, A6, n6, c6, M, by go_num, HBAS.out.cell 0 _ (fun cs h => h.setN m60) (by omega) (by omega) (by omega)⟩
          · rw [h7] at hwm
            go_wp2_with fail
            go_meet
            exact ⟨64 + r, _, A6, n6, c6, M, by go_num, HBAS.out.cell 1 _ (fun cs h => h.setA m60) (by omega) (by omega) (by omega)⟩
          · rw [h7] at hwm
            have c8 := ch m8 (by omega)
            have f8 := HBAS.out.bs.fz (3 + m8)
            go_wp2_with fail
            go_meet
            exact ⟨64 + r, _, A6, n6, c6, M, by go_num, HBAS.out.cell (3 + m8) _ (fun cs h => h.setH (o := m8) (by omega) m60) (by omega) (by omega) (by omega)⟩
          · rw [h7] at hwm
            have hw1 : IntKind.i64.wrap (m100 : Int) = (m100 : Int) := by rw [IntKind.wrap_i64]; omega
            go_wp2_with fail
            go_meet
            exact ⟨64 + m100, X, A6, n6, c6, M, by go_num, HBAS.out.same (by omega) (by omega) (fun h => by omega)⟩
          · rw [h7] at hwm
            by_cases h0 : 0 < n6
            · have e1 : decide ((0 : Int) < (n6 : Int)) = true := decide_eq_true (by omega)
              have hkn := hkk h0
              obtain ⟨e, he⟩ : ∃ e, M[kk]? = some e := ⟨_, List.getElem?_eq_getElem (by rw [← HN6.out]; exact hkn)⟩
              obtain ⟨b, hbA, hcz, hfz⟩ : ∃ b, A6 = some ⟨b, 0, none⟩ ∧ (wc.cell? ⟨b, kk * 14, none⟩ = some (.int .u64 e.i)) ∧ wc.frozen? ⟨b, kk * 14, none⟩ = false := by
                have hown := HBAS.out.own
                obtain ⟨b, c', hv, _, _⟩ := hown.form h0
                injection hv with hv1 _ _
                subst hv1
                refine ⟨b, rfl, ?_, World.ownsRow.frozenAt hown _⟩
                have := hown.cells (g := b) rfl _ _ (cellsE_get he (j := 0) (v := .int .u64 e.i) rfl)
                rw [Addr.add_lit, Nat.zero_add, Nat.add_zero] at this
                exact this
              subst hbA
              have hturn := HBAS.out.index (six := (t7 = 6)) (q := 64 + r) rfl he (v := m60) (by omega) (by omega) (by omega) (by omega)
              have HTU := Lib.hid hturn
              clear he hturn
              go_wp2_with fail
              go_meet
              exact ⟨64 + r, _, _, n6, c6, _, by go_num, HTU.out⟩
            · have e1 : decide ((0 : Int) < (n6 : Int)) = false := decide_eq_false (by omega)
              have e2 : decide (0 < n6) = false := decide_eq_false h0
              go_wp2_with fail
              go_meet
              exact ⟨64 + r, X, A6, n6, c6, M, by go_num, HBAS.out.same (by omega) (by omega) (fun h => by omega)⟩
          · rw [h7] at hwm
            by_cases h0 : 0 < n6
            · have e1 : decide ((0 : Int) < (n6 : Int)) = true := decide_eq_true (by omega)
              have hkn := hkk h0
              obtain ⟨b, hbA⟩ : ∃ b, A6 = some ⟨b, 0, none⟩ := by
                obtain ⟨b, c', hv, _, _⟩ := HBAS.out.own.form h0
                injection hv with hv1 _ _
                exact ⟨b, hv1⟩
              have hcapc := (own_capE (by have h1 := HBAS.out.own; rw [hbA] at h1; exact h1)).1
              have e4 := slO_hm A6 n6 c6 kk (by omega)
              have e9 := slO_l A6 n6 c6 (kk + 1) (by omega)
              rw [show ((kk + 1 : Nat) : Int) = (kk : Int) + 1 by omega] at e9
              have hw8 : IntKind.i64.wrap ((kk : Int) + 1) = (kk : Int) + 1 := by rw [IntKind.wrap_i64]; omega
              have HE4 := Lib.hid e4
              have HE9 := Lib.hid e9
              have HBA6 := Lib.hid hbA
              have hcc : ∀ W, Below wc.heap.size wc W → W.cell? ⟨g, 35, none⟩ = some (.slice A6 n6 c6) := fun W hW => (HBAS.out.bs.below hW).cell.2.2.2.2
              have HCC := Lib.hid hcc
              clear e4 e9 hbA hcc f35 f0 f1 c0 c1 ch
              go_upto_region 29 with fail
              clear c35
              refine wp_region_noPanic ?_
              refine keepBegin (S := fun W => Below wc.heap.size wc W) 12 (by kernel_rfl) ?_ (fun hHeld => ?_)
              · exact (RowKit.Below.refl _ _).drew
              refine keepTake (i := 0) (v := ?_) [0] rfl (by kernel_rfl) (by kernel_rfl) (by kernel_rfl) (by kernel_rfl) (by kernel_rfl) (by kernel_rfl) (fun _ _ _ h => h) (Or.inl ⟨by rfl, ?_⟩) (by assumption) ?_
              rotate_left
              · (intro W hSw; (try dsimp only at hSw);  go_simp; try with_reducible rfl)
              try simp only [keepPut, List.set, Nat.zero_add]
              refine keepTake (i := 1) (v := ?_) [1] rfl (by kernel_rfl) (by kernel_rfl) (by kernel_rfl) (by kernel_rfl) (by kernel_rfl) (by kernel_rfl) (fun _ _ _ h => h) (Or.inl ⟨by rfl, ?_⟩) (by assumption) ?_
              rotate_left
              · (intro W hSw; (try dsimp only at hSw); have f2 := HCC.out W hSw; go_simp; try with_reducible rfl)
              try simp only [keepPut, List.set, Nat.zero_add]
              refine keepTake (i := 2) (v := ?_) [2] rfl (by kernel_rfl) (by kernel_rfl) (by kernel_rfl) (by kernel_rfl) (by kernel_rfl) (by kernel_rfl) (fun _ _ _ h => h) (Or.inl ⟨by rfl, ?_⟩) (by assumption) ?_
              rotate_left
              · (intro W hSw; (try dsimp only at hSw);  go_simp; try with_reducible rfl)
              try simp only [keepPut, List.set, Nat.zero_add]
              refine keepTake (i := 3) (v := ?_) [3] rfl (by kernel_rfl) (by kernel_rfl) (by kernel_rfl) (by kernel_rfl) (by kernel_rfl) (by kernel_rfl) (fun _ _ _ h => h) (Or.inl ⟨by rfl, ?_⟩) (by assumption) ?_
              rotate_left
              · (intro W hSw; (try dsimp only at hSw);  go_simp; try with_reducible rfl)
              try simp only [keepPut, List.set, Nat.zero_add]
              refine keepTake (i := 4) (v := ?_) [4] rfl (by kernel_rfl) (by kernel_rfl) (by kernel_rfl) (by kernel_rfl) (by kernel_rfl) (by kernel_rfl) (fun _ _ _ h => h) (Or.inl ⟨by rfl, ?_⟩) (by assumption) ?_
              rotate_left
              · (intro W hSw; (try dsimp only at hSw); have f3 := HE4.out W; go_simp; try with_reducible rfl)
              try simp only [keepPut, List.set, Nat.zero_add]
              refine keepTake (i := 5) (v := ?_) [5] rfl (by kernel_rfl) (by kernel_rfl) (by kernel_rfl) (by kernel_rfl) (by kernel_rfl) (by kernel_rfl) (fun _ _ _ h => h) (Or.inl ⟨by rfl, ?_⟩) (by assumption) ?_
              rotate_left
              · (intro W hSw; (try dsimp only at hSw);  go_simp; try with_reducible rfl)
              try simp only [keepPut, List.set, Nat.zero_add]
              refine keepTake (i := 6) (v := ?_) [6] rfl (by kernel_rfl) (by kernel_rfl) (by kernel_rfl) (by kernel_rfl) (by kernel_rfl) (by kernel_rfl) (fun _ _ _ h => h) (Or.inl ⟨by rfl, ?_⟩) (by assumption) ?_
              rotate_left
              · (intro W hSw; (try dsimp only at hSw); have f2 := HCC.out W hSw; go_simp; try with_reducible rfl)
              try simp only [keepPut, List.set, Nat.zero_add]
              refine keepTake (i := 7) (v := ?_) [7] rfl (by kernel_rfl) (by kernel_rfl) (by kernel_rfl) (by kernel_rfl) (by kernel_rfl) (by kernel_rfl) (fun _ _ _ h => h) (Or.inl ⟨by rfl, ?_⟩) (by assumption) ?_
              rotate_left
              · (intro W hSw; (try dsimp only at hSw);  go_simp; try with_reducible rfl)
              try simp only [keepPut, List.set, Nat.zero_add]
              refine keepTake (i := 8) (v := ?_) [8] rfl (by kernel_rfl) (by kernel_rfl) (by kernel_rfl) (by kernel_rfl) (by kernel_rfl) (by kernel_rfl) (fun _ _ _ h => h) (Or.inl ⟨by rfl, ?_⟩) (by assumption) ?_
              rotate_left
              · (intro W hSw; (try dsimp only at hSw);  go_simp; try with_reducible rfl)
              try simp only [keepPut, List.set, Nat.zero_add]
              refine keepTake (i := 9) (v := ?_) [9] rfl (by kernel_rfl) (by kernel_rfl) (by kernel_rfl) (by kernel_rfl) (by kernel_rfl) (by kernel_rfl) (fun _ _ _ h => h) (Or.inl ⟨by rfl, ?_⟩) (by assumption) ?_
              rotate_left
              · (intro W hSw; (try dsimp only at hSw); have f3 := HE9.out W; go_simp; try with_reducible rfl)
              try simp only [keepPut, List.set, Nat.zero_add]
              obtain ⟨A9, c9, w9, hrun, hrd9, hbl9⟩ := (HBAS.out.below hHeld).cut HBA6.out hkn 63
              refine keepAll (rs := [10]) (by kernel_rfl) (by simp) (AllReadyK.cons rfl (fun K hK => ?_) AllReadyK.nil)
              rw [if_pos (by rfl)]
              refine wp_append_run (.tmp 119) (.tmp 124) rfl rfl rfl hrun ?_
              have HB9 : Hid (Below wc.heap.size wc w9) := hHeld.trans (hbl9.mono hHeld.size)
              refine hK.out _ _ HB9.out (fun hHeld2 => ?_)
              clear hK K
              try simp only [keepPut, List.set, Nat.zero_add]
              refine keepTake (i := 11) (v := ?_) [11] rfl (by kernel_rfl) (by kernel_rfl) (by kernel_rfl) (by kernel_rfl) (by kernel_rfl) (by kernel_rfl) (fun _ _ _ h => h) (Or.inl ⟨by rfl, ?_⟩) (by assumption) ?_
              rotate_left
              · (intro W hSw; (try dsimp only at hSw);  go_simp; try with_reducible rfl)
              try simp only [keepPut, List.set, Nat.zero_add]
              refine keepLast rfl (by kernel_rfl) (fun K hK => ?_)
              have f1 := HCC.out w9 HB9.out
              have f4 := (HBAS.out.bs.below HB9.out).fz 35
              go_simp
              refine hK.out _ _ ?_
              clear hK K
              try simp only [keepPut, List.set, Nat.zero_add]
              refine keepDone (by kernel_rfl) ?_ _
              refine NoPanic.normal ?_
              have hturn := (HBAS.out.below hHeld).cutDone (q := 64 + r) (six := (t7 = 6)) (c' := c9) hkn hrd9 hbl9 (by omega) (by omega) (by omega)
              have HTU := Lib.hid hturn
              clear f1 f4 hturn hrun hrd9 hbl9 hHeld hHeld2
              go_wp2_with fail
              go_meet
              exact ⟨64 + r, X, A9, n6 - 1, c9, _, by go_num, HTU.out⟩
            · have e1 : decide ((0 : Int) < (n6 : Int)) = false := decide_eq_false (by omega)
              have e2 : decide (0 < n6) = false := decide_eq_false h0
              go_wp2_with fail
              go_meet
              exact ⟨64 + r, X, A6, n6, c6, M, by go_num, HBAS.out.same (by omega) (by omega) (fun h => by omega)⟩
          · rw [h7] at hwm
            go_wp2_with fail
            go_meet
            exact ⟨64 + r, X, A6, n6, c6, M, by go_num, HBAS.out.same (by omega) (by omega) (fun _ => HOFK.out)⟩
        case rest =>
          obtain ⟨q, X2, A2, n2, c2, M2, rfl, HTU⟩ := hcut
          clear HBAS HOFK HN6
          obtain ⟨cs2, hcs2, hbs2⟩ := HTU.out.bs.at_
          have hof := sof_any q HTU.out.q0 HTU.out.q1 cs2 X2 A2 n2 c2 M2 wc hbs2 HTU.out.len (by have := HTU.out.few; omega) HTU.out.rd HTU.out.ok
          have HOF := Lib.hid hof
          have HBS2 := Lib.hid hbs2
          have HCS2 := Lib.hid hcs2
          clear hof hbs2 hcs2
          go_wp2_with (first
            | (refine wpList_load_row rfl _ _ rfl g rfl _ _ _ _ HCS2.out Try.underlying81 rfl HBS2.out.infoA ?_)
            | fail)
          refine HOF.out.mono ?_
          rintro _ w7 ⟨hcase, hb7⟩
          have hbl7 := HTU.out.bl.trans (hb7.mono HTU.out.bl.size)
          have HBL7 := Lib.hid hbl7
          have hbs7 := HTU.out.bs.below hb7
          have HBS7 := Lib.hid hbs7
          clear hbl7 hbs7 hb7 HOF HCS2 HBS2
          rcases hcase with ⟨code, rfl, hcode, hno⟩ | ⟨hofk, t, S7, K, rfl, hsm, hsp⟩
          · have h6 : ¬ (t7 = 6) := fun h => hno (HTU.out.of_ h)
            have g6 : ((t7 : Int) == 6) = false := by rw [beq_eq_false_iff_ne]; omega
            clear HTU HBS7 hno
            rcases hcode with rfl | rfl | rfl
            · go_wp2_with fail
              go_ret
              exact ⟨rfl, HBL7.out⟩
            · go_wp2_with fail
              go_ret
              exact ⟨rfl, HBL7.out⟩
            · go_wp2_with fail
              go_ret
              exact ⟨rfl, HBL7.out⟩
          · have HSP := Lib.hid hsp
            have HSM2 := Lib.hid hsm
            have HOK2 := Lib.hid hofk
            clear hsp hsm hofk
            by_cases h6 : t7 = 6
            · have g6 : ((t7 : Int) == 6) = true := by rw [beq_iff_eq]; omega
              clear HTU HBS7 HSP HSM2 HOK2
              go_wp2_with fail
              go_ret
              exact ⟨rfl, HBL7.out⟩
            · have g6 : ((t7 : Int) == 6) = false := by rw [beq_eq_false_iff_ne]; omega
              have hcnt := scounts_any w7 HSP.out
              have HCNT := Lib.hid hcnt
              clear hcnt
              go_wp2_with fail
              refine HCNT.out.mono ?_
              rintro _ w8 ⟨rfl, hb8⟩
              have hsp8 := HSP.out.below hb8
              obtain ⟨hfst, ⟨bE, EE, hchk, -⟩, hsum⟩ := HOK2.out
              have hchk2 : chkL X2.n X2.h K X2.a (fun _ => 0) = some (bE, EE) := by rw [← chkL_same HSM2.out]; exact hchk
              obtain ⟨hrise, hix⟩ := chk_rise hchk2
              have hlenK : K.length ≤ 1000 := by have h1 := HSM2.out.len; have h2 := HTU.out.len; have h3 := HTU.out.few; omega
              have hlist := listAll_at hsp8 (riseE_of hrise) (fun i hi => by have := hix i hi; omega) hlenK
              have hrtK : ∀ e ∈ K, itemN e.x = 0 := fun e he => by
                obtain ⟨y, hy, hx⟩ := same_mem HSM2.out he
                rw [← hx]
                exact HTU.out.ok y hy
              have HRTK := Lib.hid hrtK
              have hsumK : sumE K ≤ q := by rw [← sum_same HSM2.out]; exact hsum
              obtain ⟨u, hu⟩ : ∃ x, x = sumE K := ⟨_, rfl⟩
              obtain ⟨nk, hnk⟩ : ∃ x, x = K.length := ⟨_, rfl⟩
              rw [← hu] at hsumK ⊢
              rw [← hnk]
              have HLIST := Lib.hid hlist
              have HCHK := Lib.hid hchk2
              have HSP8 := Lib.hid hsp8
              have HBL8 := Lib.hid (HBL7.out.trans (hb8.mono HBL7.out.size))
              have HBS8 := Lib.hid (HBS7.out.below hb8)
              clear hrtK hb8 hsp8 hfst hchk hchk2 hsum hrise hix hlenK hlist hu hnk HCNT HSP HBL7 HBS7 HSM2 HOK2 HTU
              go_wp2_with fail
              refine HLIST.out.mono ?_
              rintro _ w9 ⟨A10, c10, Y, rfl, hsy, hry, hb9⟩
              obtain ⟨ny, hny⟩ : ∃ x, x = Y.length := ⟨_, rfl⟩
              rw [← hny]
              have HNY := Lib.hid hny
              have HRY := Lib.hid hry
              have hc0 : chkL X2.n X2.h (Y.drop 0) X2.a (fun _ => 0) = some (bE, EE) := by rw [List.drop_zero, ← chkL_same hsy]; exact HCHK.out
              have HC0 := Lib.hid hc0
              have hrtY : ∀ e ∈ Y, itemN e.x = 0 := fun e he => by
                obtain ⟨y, hy, hx⟩ := same_mem hsy he
                rw [← hx]
                exact HRTK.out y hy
              have HRTY := Lib.hid hrtY
              have hny1 : ny ≤ 100000 := by have h1 := hsy.len; have h2 := HSP8.out.few; omega
              have HSP9 := Lib.hid (HSP8.out.below hb9)
              have HBL9 := Lib.hid (HBL8.out.trans (hb9.mono HBL8.out.size))
              have HBS9 := Lib.hid (HBS8.out.below hb9)
              clear hrtY hny hsy hry hb9 hc0 HCHK HRTK HLIST HSP8 HBL8 HBS8
              go_wp2_with fail
              go_loopw [25, 166] (fun lv iv wx => ∃ (j b : Nat) (E : Nat → Nat), j ≤ ny ∧ lv = .int .u64 b ∧ iv = .int .i64 j ∧ Hid (chkL X2.n X2.h (Y.drop j) b E = some (bE, EE)) ∧ Hid (Below w9.heap.size w9 wx)) (fun _ iv _ => ny - (intOf iv).toNat)
              case atStart => exact ⟨0, X2.a, _, Nat.zero_le _, rfl, rfl, HC0.out, Below.refl _ _⟩
              case round =>
                obtain ⟨j, b, E, hj, rfl, rfl, HC, HB⟩ := hrel
                clear HC0
                by_cases hjn : j < ny
                · have q1 : decide ((j : Int) < (ny : Int)) = true := decide_eq_true (by omega)
                  have q2 : decide (j < ny) = true := decide_eq_true hjn
                  obtain ⟨e, he⟩ : ∃ e, Y[j]? = some e := ⟨_, List.getElem?_eq_getElem (by rw [← HNY.out]; exact hjn)⟩
                  obtain ⟨s1, s2, s3, s4⟩ := chk_step HC.out he
                  obtain ⟨b9, o9, rfl, hbb9, hr9, -, hoke⟩ := (HRY.out.below HB.out).at_ he
                  have HS4 := Lib.hid s4
                  have hspan := right_span (HRTY.out e (List.mem_of_getElem? he))
                  have HSPA := Lib.hid hspan
                  clear he hbb9 s4 hoke hspan HC
                  go_upto_region 40 with (first
                    | (refine wpList_load_mid rfl _ _ rfl b9 (o9 + j * 14) rfl (entC e) _ hr9 Try.underlying68 rfl Try.infoEn ?_)
                    | (refine wpList_store_row rfl _ _ _ rfl wr.heap.size _ rfl rfl _ _ (heap_alloc_new _ _) Try.infoEn rfl (by simp [Value.oneCell', entC, itC]) ?_)
                    | fail)
                  obtain ⟨V, hV, hbx, hbV, hrV, -⟩ := boxE wr _ e
                  rw [← hV]
                  obtain ⟨gz, hgz⟩ : ∃ g, g = wr.heap.size := ⟨_, rfl⟩
                  rw [← hgz] at hbx hrV ⊢
                  have hgzl : gz < V.heap.size := (Array.getElem?_eq_some_iff.1 hbx).1
                  have HCZ : Hid (V.cell? ⟨gz, 0, none⟩ = some (.int .u64 e.i)) := cell_of_row _ _ 0 _ _ _ hbx
                  have HGZ := Lib.hid hgzl
                  have HBV := Lib.hid (HB.out.trans (hbV.mono HB.out.size))
                  have HSPN := Lib.hid (span_C9 e.x e.A e.c V)
                  clear hV hbx hbV hgz hr9 hgzl HB q1 q2
                  go_wp2_with (first
                    | (refine wpList_load_mid rfl _ _ rfl gz 1 rfl (itC e.x e.A e.c) _ hrV Try.underlying60 rfl Try.infoIt ?_)
                    | fail)
                  refine HSPN.out.mono ?_
                  rintro _ w10 ⟨rfl, hb10⟩
                  have cz := (hb10.cell (p := ⟨gz, 0, none⟩) HGZ.out).trans HCZ.out
                  have hb910 := HBV.out.trans (hb10.mono HBV.out.size)
                  have HB10 := Lib.hid hb910
                  have hsp10 := HSP9.out.below hb910
                  have HSP10 := Lib.hid hsp10
                  clear hb10 hb910 hsp10 hrV HSPN HCZ HGZ HBV
                  obtain ⟨so, hso⟩ : ∃ o, o = spO e.x := ⟨_, rfl⟩
                  obtain ⟨sf, hsf⟩ : ∃ o, o = spF e.x := ⟨_, rfl⟩
                  obtain ⟨st, hst⟩ : ∃ o, o = spT e.x := ⟨_, rfl⟩
                  rw [← hso, ← hsf, ← hst]
                  rw [← hst, ← hso] at s3
                  have hso2 : so < 32 := by rw [hso]; have := HSPA.out.1; omega
                  have hhigh := high_any so hso2 w10 HSP10.out
                  have HHIGH := Lib.hid hhigh
                  have d1 : decide ((e.i : Int) ≤ (b : Int)) = false := decide_eq_false (by omega)
                  have d2 : decide ((X2.n : Int) ≤ (e.i : Int)) = false := decide_eq_false (by omega)
                  have HSO := Lib.hid hso
                  clear hso hsf hst hhigh
                  go_wp2_with fail
                  refine HHIGH.out.mono ?_
                  rintro _ w11 ⟨rfl, rfl⟩
                  obtain ⟨hh, hhe⟩ : ∃ x, x = X2.h so := ⟨_, rfl⟩
                  rw [← hhe] at s3
                  have d3 : decide ((hh : Int) < (st : Int)) = false := decide_eq_false (by omega)
                  have HHE := Lib.hid hhe
                  try rw [← HHE.out]
                  clear hhe HHIGH HSP10
                  go_wp2_with fail
                  exact ⟨⟨j + 1, e.i, _, by omega, rfl, by go_num, HS4.out, HB10.out⟩, by simp [intOf]; omega⟩
                · obtain rfl : ny = j := by omega
                  have q1 : decide ((ny : Int) < (ny : Int)) = false := decide_eq_false (by omega)
                  have hbsx := HBS9.out.below HB.out
                  obtain ⟨c0, c1, -, -, -⟩ := hbsx.cell
                  have d1 : decide ((u : Int) ≤ (q : Int)) = true := decide_eq_true (by omega)
                  have hblx := HBL9.out.trans (HB.out.mono HBL9.out.size)
                  have HBLX := Lib.hid hblx
                  clear hbsx hblx HC HB HRY HSP9 HBS9
                  go_wp2_with fail
                  go_ret
                  exact ⟨rfl, HBLX.out⟩
end spoolBases
end Go.Proofs.Ytgcfofnlgdfmoaa
