/- The walk of watchfirelaw04.ItemStreams. -/
import Derived.Test.YtkkilfoncdbciaaItStrm
import Derived.Test.YtkkilfoncdbciaaHeld
namespace Go.Proofs.Ytkkilfoncdbciaa.itemStreams
open Go.RowKit Go.Proofs.Ytkkilfoncdbciaa

set_option maxRecDepth 100000 in
set_option maxHeartbeats 4000000 in
theorem walk (A : Option Addr) (n c : Nat) (l : List Sm) (hn : n = l.length) (hm : n ≤ maxLen) (hok : ∀ s ∈ l, OkS s) (cut : Nat) (hcut : cut < 65536) (w : World) (hrd : RdM w w.heap.size A l) :
    Calls Try.prog 7 #[.slice A n c, .int .u16 cut] w fun e w' => e = .returned (.bool true) ∧ Below w.heap.size w w' := by
  unfold maxLen at hm
  have HN := Lib.hid hn
  have HOK := Lib.hid hok
  have HRd := Lib.hid hrd
  have HCut := Lib.hid hcut
  clear hn hok hrd hcut
  go_enter Try.func7, Try.ntmps7
  go_wp2_with fail
  refine (iawake_any w).mono ?_
  rintro e w1 ⟨rfl, hb1⟩
  have HB1 := Lib.hid hb1
  clear hb1
  by_cases h20 : 20 < n
  · have d1 : decide ((20 : Int) < (n : Int)) = true := decide_eq_true (by omega)
    have d2 : decide (20 < n) = true := decide_eq_true h20
    clear h20
    go_wp2_with fail
    go_ret
    exact ⟨rfl, HB1.out⟩
  have d1 : decide ((20 : Int) < (n : Int)) = false := decide_eq_false (by omega)
  have d2 : decide (20 < n) = false := decide_eq_false h20
  have hn20 : n ≤ 20 := by omega
  clear hm h20
  go_upto_region 6 with fail
  clear d1 d2
  obtain ⟨w2, hw2⟩ : ∃ V, V = w1.alloc (.cells #[.slice none 0 0] 65) := ⟨_, rfl⟩
  rw [← hw2]
  have hwt : Wtr w2 w1.heap.size (.slice none 0 0) [] := by rw [hw2]; exact Wtr.new _ _
  have hb2 : Below w.heap.size w w2 := by rw [hw2]; exact HB1.out.alloc HB1.out.size _
  obtain ⟨G, hG⟩ : ∃ k, w1.heap.size = k := ⟨_, rfl⟩
  have hgw : w.heap.size ≤ G := by rw [← hG]; exact HB1.out.size
  rw [hG] at hwt ⊢
  have HWt := Lib.hid hwt
  have HB2 := Lib.hid hb2
  clear hw2 hwt hb2 hG HB1
  go_wp2_with fail
  go_loopw [24] (fun iv wr => ∃ (k : Nat) (v : Value), k ≤ n ∧ iv = .int .i64 k ∧ Hid (Wtr wr G v (strmB (l.take k))) ∧ Hid (Below w.heap.size w wr)) (fun iv _ => 21 - (intOf iv).toNat)
  case atStart => exact ⟨0, _, Nat.zero_le _, rfl, HWt.out, HB2.out⟩
  case round =>
    obtain ⟨k, v, hk, rfl, HW, HB⟩ := hrel
    clear HWt HB2
    by_cases hlt : k < n
    · have q1 : decide ((k : Int) < (n : Int)) = true := decide_eq_true (by omega)
      have q2 : decide (k < n) = true := decide_eq_true hlt
      obtain ⟨b, off, s, rfl, hbb, hs, hrg⟩ := HRd.out.at_ (k := k) (by rw [← HN.out]; exact hlt)
      have hrg2 := range_keep hrg (HB.out.block _ hbb)
      have HS := Lib.hid hs
      clear hs hbb hrg
      go_upto_region 9 with (first
        | (refine wpList_load_mid rfl _ _ rfl b (off + k * 11) rfl (smC s) _ hrg2 Try.underlying33 rfl Try.infoS ?_)
        | (refine wpList_store_row rfl _ _ _ rfl wr.heap.size _ rfl rfl _ _ (heap_alloc_new _ _) Try.infoS rfl (by simp [Value.oneCell', smC]) ?_)
        | fail)
      obtain ⟨w3, hw3⟩ : ∃ V, V = (wr.alloc (.cells #[.bool false, .int .u8 0, .int .u8 0, .int .u8 0, .int .u16 0, .int .u16 0, .int .u16 0, .int .u8 0, .int .u8 0, .int .u8 0, .bool false] 33)).setRow wr.heap.size (smC s).toArray := ⟨_, rfl⟩
      rw [← hw3, act_put_none]
      have hX : w3.heap[wr.heap.size]? = some (.cells #[.bool s.g, .int .u8 s.o, .int .u8 s.p, .int .u8 s.w, .int .u16 s.q, .int .u16 s.m, .int .u16 s.t, .int .u8 s.r, .int .u8 s.l, .int .u8 s.v, .bool s.s] 33 (0, 0)) := by rw [hw3]; exact setRow_heap _ _ _ _ _ _ (heap_alloc_new _ _)
      have hb3 : Below wr.heap.size wr w3 := by rw [hw3]; exact below_setRow ((Below.refl _ _).alloc (Nat.le_refl _) _) (Nat.le_refl _) _
      have HX := Lib.hid hX
      have HW3 := Lib.hid (HW.out.below hb3)
      have HB3 := Lib.hid (HB.out.trans (hb3.mono HB.out.size))
      have hss : OkS s := HOK.out s (List.mem_of_getElem? HS.out)
      have t1 := smallItem_any s hss w3
      have HT1 := Lib.hid t1
      have HSs := Lib.hid hss
      clear hw3 hX hb3 hrg2 HW HB t1 hss q1 q2
      go_wp2_with (first | (refine wpList_load_row rfl _ _ rfl wr.heap.size rfl _ _ _ _ HX.out Try.underlying33 rfl (by kernel_rfl) ?_) | fail)
      refine HT1.out.mono ?_
      rintro e w4 ⟨A4, n4, c4, rfl, hn4, ho4, hb4⟩
      have hl1 : (strmB (l.take k)).length ≤ 6000 := by
        have h1 := strmB_len (l := l.take k) fun x hx => HOK.out x (List.mem_of_mem_take hx)
        have h2 : (l.take k).length ≤ k := List.length_take_le _ _
        omega
      have hl2 := smallI_len s HSs.out
      have hl3 := smallI_labs s
      have hwt4 := HW3.out.below hb4
      have hbl4 := HB3.out.trans (hb4.mono HB3.out.size)
      have t2 := iput_any G v (strmB (l.take k)) (smallI s) A4 n4 c4 (smallI_ok s HSs.out) (smallI_short s) hn4 (by omega) w4 hwt4 (by omega) (LabAt.of_new ho4 HW3.out.lt (fun k e => HW3.out.row_lt e))
      have HT2 := Lib.hid t2
      have HW4 := Lib.hid hwt4
      have HB4 := Lib.hid hbl4
      clear t2 hn4 ho4 hb4 hl1 hl2 hl3 hwt4 hbl4 HX HW3 HB3 HT1
      go_wp2_with fail
      refine HT2.out.mono ?_
      rintro e w5 ⟨rfl, hp⟩
      have HB5 := Lib.hid (hp.below HW4.out HB4.out hgw)
      obtain ⟨v5, hw5, _⟩ := hp
      rw [← strmB_take HS.out] at hw5
      have HW5 := Lib.hid hw5
      clear hw5 HW4 HB4 HT2
      go_wp2_with fail
      exact ⟨⟨k + 1, v5, by omega, by go_num, HW5.out, HB5.out⟩, by simp [intOf]; omega⟩
    · have q1 : decide ((k : Int) < (n : Int)) = false := decide_eq_false (by omega)
      have q2 : decide (k < n) = false := decide_eq_false hlt
      obtain rfl : n = k := by omega
      have HL : Hid (l.take n = l) := by show _ = _; rw [HN.out]; exact List.take_length
      have hlen : (strmB l).length ≤ 6000 := by have h1 := strmB_len (l := l) HOK.out; have := HN.out; omega
      have hw := HW.out
      rw [HL.out] at hw
      have t1 := wbytes_any G v (strmB l) wr hw (by omega)
      have HT1 := Lib.hid t1
      have HLen := Lib.hid hlen
      have HB6 := Lib.hid HB.out
      clear t1 hlen hw HW HB hlt hk
      go_wp2_with fail
      refine HT1.out.mono ?_
      rintro e w3 ⟨v3, rfl, ho3, hb3⟩
      obtain ⟨A3, c3, rfl⟩ := own_slice1 ho3
      have HB7 := Lib.hid (HB6.out.trans (hb3.mono HB6.out.size))
      have t2 := rread_any A3 (strmB l).length c3 (strmB l) w3.heap.size w3 rfl (own_nil1 ho3) (by have := HLen.out; omega) (RdB.of_own ho3) (Nat.le_refl _) (strmB_ok HOK.out)
      have HT2 := Lib.hid t2
      clear t2 ho3 hb3 HB6 HT1 q1 q2
      go_wp2_with fail
      refine HT2.out.mono ?_
      rintro e w4 ⟨g, rfl, hr4, hg4, hb4⟩
      have HB8 := Lib.hid (HB7.out.trans (hb4.mono HB7.out.size))
      have hgw2 : w.heap.size ≤ g := Nat.le_trans HB7.out.size hg4
      have HR4 := Lib.hid (show RdT w4 g (strmB (l.drop 0), 0) from hr4)
      clear hr4 hg4 hb4 HB7 HT2
      go_wp2_with fail
      go_loopw [37] (fun iv wr => ∃ (j : Nat), j ≤ n ∧ iv = .int .i64 j ∧ Hid (RdT wr g (strmB (l.drop j), 0)) ∧ Hid (Below w.heap.size w wr)) (fun iv _ => 21 - (intOf iv).toNat)
      case atStart => exact ⟨0, Nat.zero_le _, rfl, HR4.out, HB8.out⟩
      case round =>
        obtain ⟨j, hj, rfl, HRr, HBr⟩ := hrel
        clear HR4 HB8
        by_cases hj2 : j < n
        · have q1 : decide ((j : Int) < (n : Int)) = true := decide_eq_true (by omega)
          have q2 : decide (j < n) = true := decide_eq_true hj2
          obtain ⟨b, off, s, rfl, hbb, hs, hrg⟩ := HRd.out.at_ (k := j) (by rw [← HN.out]; exact hj2)
          have hrg2 := range_keep hrg (HBr.out.block _ hbb)
          have hss : OkS s := HOK.out s (List.mem_of_getElem? hs)
          have HSs := Lib.hid hss
          have hst : RdT wr g (itemB (smallI s) ++ strmB (l.drop (j + 1)), 0) := by rw [← strmB_drop hs]; exact HRr.out
          have HSt := Lib.hid hst
          clear hs hbb hrg hss hst HRr
          go_upto_region 16 with (first
            | (refine wpList_load_mid rfl _ _ rfl b (off + j * 11) rfl (smC s) _ hrg2 Try.underlying33 rfl Try.infoS ?_)
            | (refine wpList_store_row rfl _ _ _ rfl wr.heap.size _ rfl rfl _ _ (heap_alloc_new _ _) Try.infoS rfl (by simp [Value.oneCell', smC]) ?_)
            | fail)
          obtain ⟨w5, hw5⟩ : ∃ V, V = (wr.alloc (.cells #[.bool false, .int .u8 0, .int .u8 0, .int .u8 0, .int .u16 0, .int .u16 0, .int .u16 0, .int .u8 0, .int .u8 0, .int .u8 0, .bool false] 33)).setRow wr.heap.size (smC s).toArray := ⟨_, rfl⟩
          rw [← hw5, act_put_none]
          have hX : w5.heap[wr.heap.size]? = some (.cells #[.bool s.g, .int .u8 s.o, .int .u8 s.p, .int .u8 s.w, .int .u16 s.q, .int .u16 s.m, .int .u16 s.t, .int .u8 s.r, .int .u8 s.l, .int .u8 s.v, .bool s.s] 33 (0, 0)) := by rw [hw5]; exact setRow_heap _ _ _ _ _ _ (heap_alloc_new _ _)
          have hb5 : Below wr.heap.size wr w5 := by rw [hw5]; exact below_setRow ((Below.refl _ _).alloc (Nat.le_refl _) _) (Nat.le_refl _) _
          have hX2 : wr.heap.size < w5.heap.size := (Array.getElem?_eq_some_iff.1 hX).1
          have hgr : g < wr.heap.size := HSt.out.lt
          have HX := Lib.hid (show ∀ V, w5.grownBy V (some g) → V.heap[wr.heap.size]? = some (.cells #[.bool s.g, .int .u8 s.o, .int .u8 s.p, .int .u8 s.w, .int .u16 s.q, .int .u16 s.m, .int .u16 s.t, .int .u8 s.r, .int .u8 s.l, .int .u8 s.v, .bool s.s] 33 (0, 0)) from fun V hV => (hV.block wr.heap.size hX2 (by simp; omega)).trans hX)
          have HR5 := Lib.hid (HSt.out.below hb5)
          have HB5 := Lib.hid (HBr.out.trans (hb5.mono HBr.out.size))
          obtain ⟨x, hx⟩ : ∃ x, smallI s = x := ⟨_, rfl⟩
          obtain ⟨y, hy⟩ : ∃ y, normI x = y := ⟨_, rfl⟩
          have hyx : sameI y x = true := by rw [← hy]; exact same_norm x
          have hyl : y.l.length ≤ 20 := by
            have h1 := smallI_labs s
            rw [hx] at h1
            rw [← hy]
            unfold normI
            split
            · exact Nat.zero_le _
            · simp only; omega
          have hts := take_stream HSs.out (strmB (l.drop (j + 1)))
          rw [hx, hy] at hts
          have HR5' := HR5.out
          rw [hx] at HR5'
          have HT := Lib.hid (show ∀ W, RdT W g (itemB x ++ strmB (l.drop (j + 1)), 0) → Calls Try.prog 31 #[.pointer (some ⟨g, 0, none⟩)] W (TkRet y (strmB (l.drop (j + 1)), 0) g W) from fun W hW => by have h := take_any g (itemB x ++ strmB (l.drop (j + 1)), 0) W hW; rw [hts] at h; exact h)
          have HI := Lib.hid (show ∀ W, Calls Try.prog 11 #[.agg #[.bool s.g, .int .u8 s.o, .int .u8 s.p, .int .u8 s.w, .int .u16 s.q, .int .u16 s.m, .int .u16 s.t, .int .u8 s.r, .int .u8 s.l, .int .u8 s.v, .bool s.s]] W (ItRet x W) from fun W => smallItem_as hx HSs.out W)
          have HR5x := Lib.hid HR5'
          have HYX := Lib.hid hyx
          have HYL := Lib.hid hyl
          have hg5 : g < w5.heap.size := by omega
          clear hw5 hX hb5 hX2 hx hy hyx hyl hts HR5' HR5 HSt hrg2 HBr hgr q1 q2
          go_cut [46] from 41 to 46 (fun p wx => p = .bool false ∧ RdT wx g (strmB (l.drop (j + 1)), 0) ∧ Below w.heap.size w wx)
          case first =>
            refine wp_region_noPanic ?_
            refine wp_region_held_drew (S := (fun V => w5.grownBy V (some g))) (by kernel_rfl) ?_ (fun hHeld => ?_)
            · exact grown_below0 ((Below.refl w5.heap.size w5).drew) _
            refine heldTake (i := 0) (v := ?_) rfl (by kernel_rfl) (by kernel_rfl) (by kernel_rfl) (fun _ _ _ h => h) (Or.inl ⟨by rfl, ?_⟩) (by assumption) ?_
            rotate_left
            · (intro w hSw; (try dsimp only at hSw); go_simp; try with_reducible rfl)
            try simp only [heldPut, List.set]
            refine heldTake (i := 2) (v := ?_) rfl (by kernel_rfl) (by kernel_rfl) (by kernel_rfl) (fun _ _ _ h => h) (Or.inl ⟨by rfl, ?_⟩) (by assumption) ?_
            rotate_left
            · (intro w hSw; (try dsimp only at hSw); have k0 := cell_of_row _ _ 0 _ _ _ (HX.out _ hSw); have k1 := cell_of_row _ _ 1 _ _ _ (HX.out _ hSw); have k2 := cell_of_row _ _ 2 _ _ _ (HX.out _ hSw); have k3 := cell_of_row _ _ 3 _ _ _ (HX.out _ hSw); have k4 := cell_of_row _ _ 4 _ _ _ (HX.out _ hSw); have k5 := cell_of_row _ _ 5 _ _ _ (HX.out _ hSw); have k6 := cell_of_row _ _ 6 _ _ _ (HX.out _ hSw); have k7 := cell_of_row _ _ 7 _ _ _ (HX.out _ hSw); have k8 := cell_of_row _ _ 8 _ _ _ (HX.out _ hSw); have k9 := cell_of_row _ _ 9 _ _ _ (HX.out _ hSw); have k10 := cell_of_row _ _ 10 _ _ _ (HX.out _ hSw); clear hSw; simp at k0 k1 k2 k3 k4 k5 k6 k7 k8 k9 k10; go_simp; try with_reducible rfl)
            try simp only [heldPut, List.set]
            have HRd5 := Lib.hid (HR5x.out.below ((Below.refl w5.heap.size w5).drew))
            have hs0 : w5.heap.size ≤ w5.drew.heap.size := Nat.le_refl _
            refine heldOne (i := 1) rfl (by kernel_rfl) (fun K hK => ?_)
            go_simp
            refine (HT.out _ HRd5.out).mono ?_
            rintro e V1 ⟨A6, n6, c6, rfl, hn6, ho6, hr1, hg1⟩
            have HO6 := Lib.hid ho6
            have HR1 := Lib.hid hr1
            have HG1 := Lib.hid hg1
            have HN6 := Lib.hid hn6
            clear ho6 hr1 hg1 hn6
            go_wp2_with fail
            refine hK.out _ _ ?_ (fun hHeld2 => ?_)
            · exact grownBy_trans hHeld HG1.out
            clear hK K
            try simp only [heldPut, List.set]
            refine heldMore (S2 := fun V => w5.grownBy V (some g) ∧ Below V1.heap.size V1 V) (fun _ h => h.1) ?_
            have hHeld3 : w5.grownBy V1 (some g) ∧ Below V1.heap.size V1 V1 := ⟨hHeld2, Below.refl _ _⟩
            clear hHeld2 hHeld
            refine heldOne (i := 3) rfl (by kernel_rfl) (fun K hK => ?_)
            go_simp
            refine (HI.out _).mono ?_
            rintro e V2 ⟨A7, n7, c7, rfl, hn7, ho7, hb7⟩
            have HO7 := Lib.hid ho7
            have HN7 := Lib.hid hn7
            have HB7 := Lib.hid hb7
            clear ho7 hn7 hb7
            go_wp2_with fail
            refine hK.out _ _ ?_ (fun hHeld4 => ?_)
            · exact ⟨grownBy_trans hHeld3.1 (grown_below0 HB7.out _), hHeld3.2.trans (HB7.out.mono hHeld3.2.size)⟩
            clear hK K
            try simp only [heldPut, List.set]
            refine heldOne (i := 4) rfl (by kernel_rfl) (fun K hK => ?_)
            go_simp
            refine (refSame_true HYX.out A6 n6 c6 A7 n7 c7 V2 HN6.out HN7.out (by have := HYL.out; have := HN6.out; unfold maxLen; omega) (RdP.of_own (own_below HO6.out HB7.out)) (RdP.of_own HO7.out)).mono ?_
            rintro e V3 ⟨rfl, hb8⟩
            have HB8 := Lib.hid hb8
            clear hb8
            go_wp2_with fail
            refine hK.out _ _ ?_ (fun hHeld5 => ?_)
            · exact ⟨grownBy_trans hHeld4.1 (grown_below0 HB8.out _), hHeld4.2.trans (HB8.out.mono hHeld4.2.size)⟩
            clear hK K
            try simp only [heldPut, List.set]
            refine heldTake (i := 5) (v := ?_) rfl (by kernel_rfl) (by kernel_rfl) (by kernel_rfl) (fun _ _ _ h => h) (Or.inl ⟨by rfl, ?_⟩) (by assumption) ?_
            rotate_left
            · (intro w hSw; (try dsimp only at hSw); go_simp; try with_reducible rfl)
            try simp only [heldPut, List.set]
            refine wpAnyH_done (by kernel_rfl) ?_ _
            refine NoPanic.normal ?_
            go_wp2_with fail
            go_meet
            exact ⟨rfl, HR1.out.below hHeld5.2, HB5.out.grown hHeld5.1 HB5.out.size (fun k e => by cases e; exact hgw2)⟩
          case rest =>
            obtain ⟨rfl, hr6, hb6⟩ := hcut
            have HR6 := Lib.hid hr6
            have HB6 := Lib.hid hb6
            clear hr6 hb6 HX HR5x HB5
            go_wp2_with fail
            exact ⟨⟨j + 1, by omega, by go_num, HR6.out, HB6.out⟩, by simp [intOf]; omega⟩
        · have q1 : decide ((j : Int) < (n : Int)) = false := decide_eq_false (by omega)
          have q2 : decide (j < n) = false := decide_eq_false hj2
          obtain rfl : n = j := by omega
          have hrd : RdT wr g ([], 0) := by
            have h := HRr.out
            rw [HN.out, List.drop_length] at h
            exact h
          have t1 := tk_done g ([], 0) wr hrd
          have HT1 : Hid (Calls Try.prog 32 #[.pointer (some ⟨g, 0, none⟩)] wr fun e w' => e = .returned (.int .i64 0) ∧ wr.grownBy w' (some g)) := t1
          clear t1 hrd HRr hj2 hj
          go_wp2_with fail
          refine HT1.out.mono ?_
          rintro e w5 ⟨rfl, hg5⟩
          have HB5 := Lib.hid (HBr.out.grown hg5 HBr.out.size (fun k e => by cases e; exact hgw2))
          clear hg5 HBr HT1 q1 q2
          by_cases h0 : n = 0
          · have p1 : ((n : Int) == 0) = true := by rw [beq_iff_eq]; omega
            clear h0
            go_wp2_with fail
            go_ret
            exact ⟨rfl, HB5.out⟩
          have p1 : ((n : Int) == 0) = false := by rw [beq_eq_false_iff_ne]; omega
          have hpos : 0 < n := by omega
          obtain ⟨b, off, s, rfl, hbb, hs, hrg⟩ := HRd.out.at_ (k := 0) (by rw [← HN.out]; exact hpos)
          have hrg2 := range_keep hrg (HB5.out.block _ hbb)
          have hrg3 : w5.rangeAt b off (smC s) := by simpa using hrg2
          have hss : OkS s := HOK.out s (List.mem_of_getElem? hs)
          have HSs := Lib.hid hss
          have t1 := smallItem_any s hss w5
          have HT1 := Lib.hid t1
          have q3 : decide (0 < n) = true := decide_eq_true hpos
          clear h0 hs hbb hrg hrg2 hss t1
          go_wp2_with (first | (refine wpList_load_mid rfl _ _ rfl b off rfl (smC s) _ hrg3 Try.underlying33 rfl Try.infoS ?_) | fail)
          refine HT1.out.mono ?_
          rintro e w6 ⟨A6, n6, c6, rfl, hn6, ho6, hb6⟩
          obtain ⟨x, hx⟩ : ∃ x, smallI s = x := ⟨_, rfl⟩
          have hxo : OkI x := by rw [← hx]; exact smallI_ok s HSs.out
          have hxs : ShortI x := by rw [← hx]; exact smallI_short s
          have hxr : itemN x = 0 := by rw [← hx]; exact smallI_right s HSs.out
          have hxl : (itemB x).length ≤ 300 := by rw [← hx]; exact smallI_len s HSs.out
          have hx3 : x.l.length ≤ 3 := by rw [← hx]; exact smallI_labs s
          have hxb : OkB (itemB x) := by rw [← hx]; exact smallB_ok HSs.out
          rw [hx] at hn6 ho6 ⊢
          have t2 := encode_any x A6 n6 c6 hxo hxs hn6 (by omega) w6 (by omega) (RdP.of_own ho6)
          have HT2 := Lib.hid t2
          have HB6 := Lib.hid (HB5.out.trans (hb6.mono HB5.out.size))
          have HXO := Lib.hid hxo
          have HXR := Lib.hid hxr
          have HXB := Lib.hid hxb
          clear hn6 ho6 hb6 hx hxo hxs hxr hx3 hxb t2 HB5 HT1 HSs hrg3
          go_wp2_with fail
          refine HT2.out.mono ?_
          rintro e w7 ⟨v7, rfl, ho7, hb7⟩
          obtain ⟨b7, c7, rfl, hc7⟩ := own_pos1 ho7 (itemB_pos x)
          obtain ⟨L, hL⟩ : ∃ L, (itemB x).length = L := ⟨_, rfl⟩
          have hLp : 0 < L := by rw [← hL]; exact itemB_pos x
          rw [hL] at ho7 hc7 hxl ⊢
          obtain ⟨K, hK⟩ : ∃ K, cut % L = K := ⟨_, rfl⟩
          have hKL : K < L := by rw [← hK]; exact Nat.mod_lt _ hLp
          have hcb := HCut.out
          have e1 : (cut : Int) % (L : Int) = (K : Int) := by rw [← hK]; exact (Int.natCast_emod cut L).symm
          have e2 : (cut : Int).tmod (L : Int) = (K : Int) := by rw [Int.tmod_eq_emod_of_nonneg (by omega)]; exact e1
          have hKc : K ≤ c7 := by omega
          have t3 := decode_any (some ⟨b7, 0, none⟩) K c7 ((itemB x).take K) w7.heap.size w7 (by rw [List.length_take, hL]; omega) (fun h => by cases h) (by omega) ((RdB.of_own ho7).take K) (Nat.le_refl _) (HXB.out.take K)
          rw [dec_cut HXO.out HXR.out (by rw [hL]; exact hKL)] at t3
          obtain ⟨z, hz⟩ : ∃ z, decI ((itemB x).take K) = z := ⟨_, rfl⟩
          rw [hz] at t3
          have HT3 := Lib.hid t3
          have HO7 := Lib.hid ho7
          have HB7 := Lib.hid (HB6.out.trans (hb7.mono HB6.out.size))
          have HLe := Lib.hid hL
          clear ho7 hb7 hK t3 hz HB6 HT2 hL
          go_wp2_with fail
          refine HT3.out.mono ?_
          rintro e w8 ⟨A8, n8, c8, rfl, hn8, ho8, hb8⟩
          have HO8 := Lib.hid (own_below HO7.out hb8)
          have HB8 := Lib.hid (HB7.out.trans (hb8.mono HB7.out.size))
          clear hn8 ho8 hb8 HO7 HB7 HT3 e1 e2
          go_upto_region 23 with (first | (refine wpList_store_row rfl _ _ _ rfl w8.heap.size _ rfl rfl _ _ (heap_alloc_new _ _) Try.infoI rfl (by simp [Value.oneCell']) ?_) | fail)
          obtain ⟨w9, hw9⟩ : ∃ V, V = (w8.alloc (.cells #[.bool false, .int .u8 0, .int .u64 0, .int .u64 0, .string ⟨#[]⟩, .slice none 0 0, .int .u8 0, .int .u8 0, .int .i64 0, .int .u8 0, .int .u8 0, .int .u64 0, .int .u64 0] 30)).setRow w8.heap.size (#[.bool z.g, .int .u8 z.o, .int .u64 z.q, .int .u64 z.t, .string z.r, .slice A8 n8 c8, .int .u8 z.s, .int .u8 z.p, .int .i64 z.v, .int .u8 z.w, .int .u8 z.ga, .int .u64 z.gf, .int .u64 z.gt]) := ⟨_, rfl⟩
          rw [← hw9]
          have hb9 : Below w8.heap.size w8 w9 := by rw [hw9]; exact below_setRow ((Below.refl _ _).alloc (Nat.le_refl _) _) (Nat.le_refl _) _
          have hbe : Below w9.heap.size w9 (w9.alloc (.cells #[] 5)) := (Below.refl _ _).alloc (Nat.le_refl _) _
          have HS1 : Hid (Src (w9.alloc (.cells #[] 5)) (some ⟨b7, 0, none⟩) L 1 (cellsB (itemB x))) := src_of_rdB ((RdB.of_own (own_below HO8.out hb9)).below hbe) HLe.out.symm
          have HB9 := Lib.hid (HB8.out.trans (hb9.mono HB8.out.size))
          clear hw9 hb9 HO8 HB8 hKc
          obtain ⟨i0, hi, hz0, hz1, hz2⟩ := info_parts Try.infoB
          go_wp2_with (first
            | (at_builtin; refine wpList_append_src (base := w9.heap.size) rfl _ _ rfl Try.underlying41 hi hz0 hz1 hz2 rfl (by decide) rfl (World.ownsRow_made _ #[] 0 (Nat.le_refl _) (Nat.zero_le _) rfl) rfl HS1.out (cellsB_one _) (by unfold maxLen; omega) (by omega) (by simp) ?_; intro v3 w3 hr3 hg3 hb3; replace hg3 := Lib.hid (show Below w9.heap.size w9 w3 from hbe.grown hg3 (by simp) (fun q hq => by cases hq; exact Nat.le_refl _)); replace hr3 := Lib.hid hr3; clear hb3)
            | (at_builtin; refine wpList_append_src (base := w9.heap.size) rfl _ _ rfl Try.underlying41 hi hz0 hz1 hz2 rfl (by decide) rfl (own_below hr3.out ((Below.refl w3.heap.size w3).alloc (Nat.le_refl _) _)) rfl (src_of_rdB (rdB_one w3 5 0 0 rfl) rfl) (cellsB_one _) (by unfold maxLen; omega) (by omega) (by have := hg3.out.size; simp; omega) ?_; intro v4 w4 hr4 hg4 hb4; obtain ⟨A4, c4, rfl⟩ := own_slice1 hr4; replace hg4 := Lib.hid (show Below w9.heap.size w9 w4 from (hg3.out.alloc hg3.out.size _).grown hg4 (by have := hg3.out.size; simp; omega) (fun q hq => (hr3.out.lt q hq).1)); replace hr4 := Lib.hid hr4; clear hb4)
            | fail)
          have hr5 : w4.ownsRow w9.heap.size 5 1 (.slice A4 (L + 1) c4) (L + 1) (cellsB (itemB x ++ [0])) := by have h := hr4.out; rw [List.nil_append, ← cellsB_append, Nat.zero_add] at h; exact h
          have t4 := decode_any A4 (L + 1) c4 (itemB x ++ [0]) w4.heap.size w4 (by rw [List.length_append, HLe.out]; simp) (own_nil1 hr5) (by omega) (RdB.of_own hr5) (Nat.le_refl _) (HXB.out.append (fun q hq => by simp at hq; omega))
          rw [dec_rest HXO.out HXR.out 0 []] at t4
          refine t4.mono ?_
          rintro e w10 ⟨A9, n9, c9, rfl, hn9, ho9, hb10⟩
          have HB10 := Lib.hid (HB9.out.trans ((hg4.out.trans (hb10.mono hg4.out.size)).mono HB9.out.size))
          clear hn9 ho9 hb10 hr5 t4 hr3 hr4 hg3 hg4 HS1 hbe
          obtain ⟨z2, hz⟩ : ∃ z, decI (itemB x ++ [0]) = z := ⟨_, rfl⟩
          rw [hz]
          clear hz
          go_upto_region 24 with (first | (refine wpList_store_row rfl _ _ _ rfl w10.heap.size _ rfl rfl _ _ (heap_alloc_new _ _) Try.infoI rfl (by simp [Value.oneCell']) ?_) | fail)
          go_wp2_with fail
          go_ret
          exact ⟨rfl, below_setRow (HB10.out.alloc HB10.out.size _) HB10.out.size _⟩
end Go.Proofs.Ytkkilfoncdbciaa.itemStreams
