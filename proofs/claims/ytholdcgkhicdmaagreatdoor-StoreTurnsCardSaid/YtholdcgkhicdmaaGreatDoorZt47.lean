/- Several texts in one: StoreTurns. -/
import Derived.ChangeKeysEq
import Derived.Test.YtholdcgkhicdmaaGreatDoorZt46
namespace Go.Proofs.YtholdcgkhicdmaaGreatDoor
open Go.RowKit
def evT (s st : Nat) (a : Addr) : Array Value := #[.int .u8 0, .int .u64 s, .int .u64 0, .string ⟨#[120]⟩, .slice (some a) 1 1, .int .u8 st, .int .u8 0, .int .i64 0, .int .u8 0]
theorem rdT {w : World} {b : Nat} {T : TypeId} {fr : Nat × Nat} (h : w.heap[b]? = some (.cells #[.string ⟨#[107]⟩, .string ⟨#[115, 111, 109, 101, 46, 118, 97, 108, 117, 101]⟩] T fr)) : RdP w w.heap.size (some ⟨b, 0, none⟩) lbT := fun _ => by
  refine ⟨b, 0, rfl, (Array.getElem?_eq_some_iff.1 h).1, fun i p hp => ?_⟩
  match i with
  | 0 =>
    have hp : (⟨#[107]⟩, ⟨#[115, 111, 109, 101, 46, 118, 97, 108, 117, 101]⟩) = p := by simpa [lbT] using hp
    subst hp
    exact ⟨cell_of_row _ _ 0 _ _ _ h, cell_of_row _ _ 1 _ _ _ h⟩
  | i + 1 => simp [lbT] at hp
def hisC (h : Nat → Nat) : List Value := (List.range 32).map fun i => .int .u64 (h i)
theorem hisC_get {h : Nat → Nat} {j : Nat} {v : Value} (hj : (hisC h)[j]? = some v) : j < 32 ∧ v = .int .u64 (h j) := by
  have hl := (List.getElem?_eq_some_iff.1 hj).1
  have hl2 : j < 32 := by simpa [hisC] using hl
  refine ⟨hl2, ?_⟩
  unfold hisC at hj
  rw [List.getElem?_map, List.getElem?_range hl2] at hj
  exact (Option.some.inj hj).symm
theorem BsAt.his {w : World} {g : Nat} {X : Sp} {v : Value} (h : BsAt w g X v) : w.rangeAt g 3 (hisC X.h) := fun j u hj => by
  obtain ⟨h1, rfl⟩ := hisC_get hj
  exact h.cell.2.2.2.1 j h1
theorem eqItems_same {P : Program} {w : World} {d : Nat} {e : TypeId} {c : Nat} {xs : Array Value} (he : P.plainKey e = true) (hu : P.underlying e = some (.int .u64)) : ∀ l : List Nat, (∀ i ∈ l, ∃ z, xs[i * c]? = some (.int .u64 z)) → (Op.eqItems (d + 1) e c xs xs l).run P w = .ok true w
  | [], _ => by simp [Op.eqItems]
  | i :: l, h => by
    obtain ⟨z, hz⟩ := h i List.mem_cons_self
    have p1 := run_part_plain w he hz
    have p2 := run_equalIn_int (P := P) (w := w) d e .u64 .u64 z z hu
    have ih := eqItems_same (P := P) (w := w) (d := d) (c := c) he hu l fun j hj => h j (List.mem_cons_of_mem _ hj)
    simp only [Op.eqItems, Sem.run_bind, p1, p2, Result.andThen_ok]
    simpa using ih
theorem eql_his (h : Nat → Nat) (W : World) : (binOp .eql 60 (.agg (hisC h).toArray) (.agg (hisC h).toArray)).run Tryz.prog W = .ok (.bool true) W := by
  have hc : Tryz.prog.cellsOf 34 = 1 := by kernel_rfl
  obtain ⟨i0, hi⟩ : ∃ i, Tryz.prog.info? 34 = some i := Option.isSome_iff_exists.1 (by kernel_rfl)
  rw [run_eql_struct, run_equalIn_array (P := Tryz.prog) W 9999 (e := 34) (n := 32) _ _ Tryz.underlying60 hi, hc, eqItems_same (by kernel_rfl) Tryz.underlying34]
  · rfl
  · intro i hi
    have hi32 : i < 32 := List.mem_range.1 hi
    refine ⟨(h i : Int), ?_⟩
    rw [Nat.mul_one, List.getElem?_toArray]
    unfold hisC
    rw [List.getElem?_map, List.getElem?_range hi32]
    rfl
theorem Tryz.info32 : (Tryz.prog.info? 60).map (·.size) = some 32 := by kernel_rfl
theorem hisC_info (h : Nat → Nat) : (Tryz.prog.info? 60).map (·.size) = some (hisC h).length := by
  rw [Tryz.info32]
  simp [hisC]
namespace storeTurns
set_option maxRecDepth 100000 in
set_option maxHeartbeats 8000000 in
theorem walk {ev : Value} (qz nz tk tb : Nat) (cr : Bool) (w : World) (hg : Gl w ev) (hq : qz < 256) (hn : nz < 65536) (htk : tk < 65536) (htb : tb < 65536) :
    Calls Tryz.prog 3 #[.int .u8 qz, .int .u16 nz, .agg #[.int .u16 tk, .int .u16 tb], .bool cr] w fun e w' => e = .returned (.bool true) ∧ Below w.heap.size w w' := by
  obtain ⟨wT, hwT⟩ : ∃ wT, wT = w.alloc (.cells #[.int .u16 tk, .int .u16 tb] 24) := ⟨_, rfl⟩
  have hbT : Below w.heap.size w wT := by rw [hwT]; exact (Below.refl _ _).alloc (Nat.le_refl _) _
  have hxT : wT.heap[w.heap.size]? = some (.cells #[.int .u16 tk, .int .u16 tb] 24 (0, 0)) := by rw [hwT]; exact heap_alloc_new _ _
  have hlT : w.heap.size < wT.heap.size := by rw [hwT]; simp
  have HG := Lib.hid (hg.below hbT)
  have HWT := Lib.hid hwT
  have HBT := Lib.hid hbT
  have HXT := Lib.hid hxT
  have HAW := Lib.hid (awake9_any wT (hg.below hbT))
  obtain ⟨q, hqq⟩ : ∃ q, q = 64 + qz := ⟨_, rfl⟩
  have hq1 : 64 ≤ q := by omega
  have hq2 : q ≤ 319 := by omega
  have e1 : IntKind.i64.wrap (64 + (qz : Int)) = (q : Int) := by rw [IntKind.wrap_i64]; omega
  have e2 : 64 + (qz : Int) = (q : Int) := by omega
  obtain ⟨N, hN⟩ : ∃ N, N = nz % 300 := ⟨_, rfl⟩
  have hN300 : N < 300 := by omega
  have e3 : (nz : Int) % 300 = (N : Int) := by omega
  clear hg hwT hbT hxT hqq hN
  go_enter Tryz.func3, Tryz.ntmps3
  go_upto_region 1 with fail
  rw [← HWT.out]
  obtain ⟨tt, htt⟩ : ∃ tt, tt = w.heap.size := ⟨_, rfl⟩
  rw [← htt] at HXT hlT ⊢
  have HTT := Lib.hid htt
  clear htt HWT
  go_wp2_with fail
  refine HAW.out.mono ?_
  rintro _ w0 ⟨rfl, hb0⟩
  have HB0 := Lib.hid (⟨HBT.out.trans (hb0.mono HBT.out.size), hb0⟩ : _ ∧ _)
  clear hb0 HAW
  go_wp2_with fail
  refine (new_any w0).mono ?_
  rintro _ w1 ⟨rfl, hw1⟩
  have hd1 : Disk w1 (fun k => k = w0.heap.size) w0.heap.size [] 0 0 := by rw [hw1]; exact Disk.new w0
  have hb1 : Below w0.heap.size w0 w1 := by rw [hw1]; exact (Below.refl _ _).alloc (Nat.le_refl _) _
  have hl1 : w1.heap.size = w0.heap.size + 1 := by rw [hw1]; simp
  obtain ⟨gd, hgd⟩ : ∃ gd, gd = w0.heap.size := ⟨_, rfl⟩
  rw [← hgd] at hd1 ⊢
  have HD1 := Lib.hid hd1
  have HB1 := Lib.hid hb1
  have HZ1 := Lib.hid (⟨hl1, hgd⟩ : _ ∧ _)
  clear hw1 hd1 hb1 hl1 hgd
  go_wp2_with fail
  refine (cnew_any w1).mono ?_
  rintro _ w2 ⟨rfl, hb2, hz2, hT2⟩
  obtain ⟨g, hgg⟩ : ∃ g, g = w1.heap.size := ⟨_, rfl⟩
  rw [← hgg] at hT2 ⊢
  have hdt : DkT w2 (fun k => k = gd) gd g [] 0 := ⟨⟨0, 0, Nat.le_refl _, Nat.le_refl _, HD1.out.below hb2⟩, ⟨0, 0, 0, Nat.zero_le _, Nat.le_refl _, Nat.le_refl _, hT2⟩⟩
  have hb02 : Below w0.heap.size w0 w2 := HB1.out.trans (hb2.mono HB1.out.size)
  have hgl := HG.out.l
  have hw0l := HB0.out.2.size
  have hG2 := (HG.out.below HB0.out.2).below hb02
  have hne : g ≠ gd := by have := HZ1.out.1; have := HZ1.out.2; omega
  have hgw : w0.heap.size ≤ g := by have := HZ1.out.1; omega
  have hdw : w0.heap.size ≤ gd := by have := HZ1.out.2; omega
  have HF := Lib.hid (live_first (me := 0) (q := q) w2 hdt (by decide) hq1 (by omega) (by decide) hne hG2.v hG2.l (by omega) (by omega) hG2.e)
  have HB2 := Lib.hid hb02
  have HGW := Lib.hid (⟨hgw, hdw, hw0l⟩ : _ ∧ _ ∧ _)
  have HG0 := Lib.hid (HG.out.below HB0.out.2)
  clear hb2 hz2 hT2 hgg hdt hb02 hG2 hne HD1 hgw hdw HZ1 HB1 hw0l hgl e1
  go_wp2_with fail
  refine HF.out.mono ?_
  rintro _ w3 hop
  obtain ⟨st, rfl, htz⟩ := tz_first (w0 := w0) hop HB2.out (fun k hk => by have := HGW.out.2.1; omega) HGW.out.1 rfl
  have HTZ3 := Lib.hid htz
  clear hop htz HF
  go_wp2
  clear e3
  go_loopw [46] (fun iv wx => ∃ k : Nat, k ≤ N ∧ iv = .int .i64 k ∧ Hid (∃ fu, TZ w0 wx gd g st q k (18 + 3 * k) (19 + 34 * k + 19 * ((k + 2) / 3)) k fu)) (fun iv _ => N - (intOf iv).toNat)
  case atStart => exact ⟨0, Nat.zero_le _, rfl, true, HTZ3.out⟩
  case round =>
    obtain ⟨k, hk, rfl, HB⟩ := hrel
    by_cases hlt : k < N
    · obtain ⟨fu, htz⟩ := HB.out
      have HN := Lib.hid (tz_next htz (by omega))
      have HTZ := Lib.hid htz
      clear htz HB
      go_wp2_with fail
      refine HN.out.mono ?_
      rintro _ w4 ⟨s, rfl, hs, hb4⟩
      have HTZ4 := Lib.hid (HTZ.out.below hb4)
      clear hb4 HN HTZ
      go_upto_region 12 with (first | (refine wpList_store_row rfl _ _ _ rfl _ _ rfl rfl _ _ (heap_alloc_new _ _) (by kernel_rfl) rfl (by simp [Value.oneCell']) ?_) | fail)
      obtain ⟨w5, hw5⟩ : ∃ w5, w5 = ((w4.alloc (.cells #[.string ⟨#[107]⟩, .string ⟨#[115, 111, 109, 101, 46, 118, 97, 108, 117, 101]⟩] 37)).alloc (.cells #[.int .u8 0, .int .u64 s, .int .u64 0, .string ⟨#[120]⟩, .slice (some ⟨w4.heap.size, 0, none⟩) 1 1, .int .u8 0, .int .u8 0, .int .i64 0, .int .u8 0] 41)) := ⟨_, rfl⟩
      have hb45 : Below w4.heap.size w4 w5 := by rw [hw5]; exact ((Below.refl _ _).alloc (Nat.le_refl _) _).alloc (by simp) _
      have hl5 : w5.heap[w4.heap.size]? = some (.cells #[.string ⟨#[107]⟩, .string ⟨#[115, 111, 109, 101, 46, 118, 97, 108, 117, 101]⟩] 37 (0, 0)) := by rw [hw5]; exact heap_alloc2_old _ _ _
      have hx5 : w5.heap[w4.heap.size + 1]? = some (.cells (evT s 0 ⟨w4.heap.size, 0, none⟩) 41 (0, 0)) := by rw [hw5]; exact heap_alloc2_new _ _ _
      rw [← hw5]
      obtain ⟨p, hp⟩ : ∃ p, p = w4.heap.size + 1 := ⟨_, rfl⟩
      obtain ⟨lb, hlb⟩ : ∃ lb, lb = w4.heap.size := ⟨_, rfl⟩
      have ho5 : w5.heap.size = w4.heap.size + 2 := by rw [hw5]; simp
      simp only [← hp]
      simp only [← hlb]
      rw [← hp, ← hlb] at hx5
      rw [← hlb] at hl5
      have HP := Lib.hid (⟨hp, hlb, ho5⟩ : _ ∧ _ ∧ _)
      clear hw5 hp hlb ho5
      by_cases hev : k % 2 = 0
      · have m1 : (k : Int) % 2 = 0 := by omega
        have hf5 : w5.frozen? ⟨p, 5, none⟩ = false := frozen_of_row _ _ 5 _ _ hx5
        have hc5 : w5.cell? ⟨p, 5, none⟩ = some (.int .u8 0) := cell_of_row _ _ 5 _ _ _ hx5
        go_upto_region 14 with fail
        obtain ⟨sv, hsv⟩ : ∃ sv, sv = 2 := ⟨_, rfl⟩
        obtain ⟨w6, hw6⟩ : ∃ w6, w6 = w5.setCell ⟨p, 5, none⟩ (.int .u8 2) := ⟨_, rfl⟩
        have hx6 : w6.heap[p]? = some (.cells (evT s sv ⟨lb, 0, none⟩) 41 (0, 0)) := by rw [hw6, hsv, heap_setCell_same _ p 5 _ _ _ hx5]; rfl
        have hl6 : w6.heap[lb]? = some (.cells #[.string ⟨#[107]⟩, .string ⟨#[115, 111, 109, 101, 46, 118, 97, 108, 117, 101]⟩] 37 (0, 0)) := by rw [hw6, heap_setCell_other _ _ _ _ (by show lb ≠ p; have := HP.out; omega)]; exact hl5
        have HB6 : Hid (Below w4.heap.size w4 w6) := by rw [hw6]; exact hb45.setCell (by show w4.heap.size ≤ p; have := HP.out; omega) _
        have hsv2 : sv ≤ 2 := by omega
        rw [← hw6]
        clear hw6 hsv hx5 hl5 hb45 hf5 hc5 m1
        have hb46 : Below w4.heap.size w4 w6 := HB6.out
        have HOF := Lib.hid (of_any 0 s 0 ⟨#[120]⟩ (some ⟨lb, 0, none⟩) 1 1 lbT sv 0 0 0 w6 rfl (fun h => by cases h) (by decide) (rdT hl6))
        have HX6 := Lib.hid hx6
        have HTZ6 := Lib.hid (HTZ4.out.below hb46)
        clear hb46 hx6 hl6
        go_wp2_with (first | (refine wpList_load_row rfl _ _ rfl p rfl _ _ _ _ HX6.out Tryz.underlying41 rfl (by kernel_rfl) ?_) | fail)
        refine HOF.out.mono ?_
        rintro _ w7 ⟨L7, rfl, ho7, hb7⟩
        obtain ⟨A7, c7, rfl⟩ := own_slice ho7
        have hr7 : RdP w7 w7.heap.size A7 lbT := RdP.of_own ho7
        have hA7 : A7 = none → lbT.length = 0 := fun e => by
          rcases ho7.2 with ⟨_, e2⟩ | ⟨g', cap, cur, e1, _⟩
          · cases e2
          · injection e1 with e1; rw [e] at e1; cases e1
        have hn7 : ∀ a, A7 = some a → w6.heap.size ≤ a.block := fun a ha => (ho7.lt a.block (by rw [ha]; rfl)).1
        have hP := tz_put (w1 := w7) (s := s) (sv := sv) (A := A7) (c := c7) HTZ6.out hb7 hs (by omega) (by omega) (by omega) (by omega) (by omega) hA7 hr7 hn7
        have HPU := Lib.hid hP
        clear ho7 hb7 hr7 hA7 hn7 hP HOF HX6 HTZ6
        go_wp2_with fail
        refine HPU.out.mono ?_
        rintro _ w8 ⟨x8, y8, z8, rfl, htz8⟩
        have HSY := Lib.hid (tz_sync htz8 (by omega))
        clear htz8 HPU
        go_wp2_with fail
        refine HSY.out.mono ?_
        rintro _ w9 ⟨rfl, htz9⟩
        obtain ⟨z1, z2, ge, hz12, hz2, hS9, hR9⟩ := tz_sizes htz9
        have HS9 := Lib.hid hS9
        have HR9 := Lib.hid hR9
        have HTZ9 := Lib.hid htz9
        clear htz9 hS9 hR9 HSY
        go_wp2_with fail
        refine (HS9.out w9 (Below.refl _ _)).mono ?_
        rintro _ w10 ⟨rfl, hb10⟩
        have HB10 := Lib.hid hb10
        clear hb10
        go_wp2_with fail
        refine (HR9.out w10 HB10.out).mono ?_
        rintro _ w11 ⟨rfl, hb11⟩
        have hb911 := HB10.out.trans (hb11.mono HB10.out.size)
        have HTZ11 := Lib.hid (HTZ9.out.below hb911)
        have HNM := Lib.hid (tz_names HTZ11.out)
        have f1 : IntKind.i64.wrap ((z2 : Int) + 64) = (z2 : Int) + 64 := by rw [IntKind.wrap_i64]; omega
        have f2 : decide ((z2 : Int) + 64 < (z1 : Int)) = false := decide_eq_false (by omega)
        have f3 : decide (z2 + 64 < z1) = false := decide_eq_false (by omega)
        clear hb11 hb911 HS9 HR9 HB10 HTZ9
        go_wp2_with fail
        refine HNM.out.mono ?_
        rintro _ w12 ⟨A12, c12, rfl, hb12⟩
        have HTZ12 := Lib.hid (HTZ11.out.below hb12)
        clear hb12 HNM HTZ11 f1 f2 f3
        by_cases h3 : k % 3 = 0
        · have m3 : (k : Int) % 3 = 0 := by omega
          have HSP := Lib.hid (tz_spool HTZ12.out)
          go_wp2_with fail
          refine HSP.out.mono ?_
          rintro _ w13 ⟨sq, S13, X13, L13, rfl, hsp13, hn13, hm13, hb13⟩
          have HC13 := Lib.hid (scounts_any w13 hsp13)
          have HTZ13 := Lib.hid (HTZ12.out.below hb13)
          clear hsp13 hb13 HSP HTZ12
          obtain ⟨sz13, hsz13⟩ : ∃ z, z = sumE L13 := ⟨_, rfl⟩
          obtain ⟨ln13, hln13⟩ : ∃ z, z = L13.length := ⟨_, rfl⟩
          obtain ⟨nx, hnx⟩ : ∃ z, z = X13.n := ⟨_, rfl⟩
          obtain ⟨ax, hax⟩ : ∃ z, z = X13.a := ⟨_, rfl⟩
          obtain ⟨vx, hvx⟩ : ∃ z, z = X13.v := ⟨_, rfl⟩
          rw [← hsz13, ← hln13, ← hnx, ← hax, ← hvx] at HC13
          rw [← hnx] at hn13 hm13
          clear hsz13 hln13 hnx hax hvx
          go_wp2_with fail
          refine HC13.out.mono ?_
          rintro _ w14 ⟨rfl, hb14⟩
          have HTZ14 := Lib.hid (HTZ13.out.below hb14)
          obtain ⟨nm, hnm⟩ : ∃ nm, nm = nx - 1 := ⟨_, rfl⟩
          have f4 : IntKind.u64.wrap ((nx : Int) - 1) = (nm : Int) := by rw [IntKind.wrap_u64]; omega
          have f5 : (nx : Int) - 1 = (nm : Int) := by omega
          have hnm2 : nm ≤ 100000 := by omega
          have HAC := Lib.hid (tz_ack (N := nm) HTZ14.out (by omega) (by omega) (by omega))
          clear hb14 HC13 HTZ13 hnm
          go_wp2_with fail
          refine HAC.out.mono ?_
          rintro _ w15 ⟨z15, rfl, htz15⟩
          have HE : Hid (∃ fu, TZ w0 w15 gd g st q (k + 1) (18 + 3 * (k + 1)) (19 + 34 * (k + 1) + 19 * ((k + 1 + 2) / 3)) (k + 1) fu) := ⟨false, htz15.more (by omega) (by omega) (by omega) (by omega)⟩
          clear htz15 HAC HTZ14 f4 f5
          go_wp2
          go_roundw
          case rel => exact ⟨k + 1, by omega, by go_num, HE.out⟩
          case measure => simp [intOf]; omega
        · have m3 : ¬ (k : Int) % 3 = 0 := by omega
          have m4 : ((k : Int) % 3 == 0) = false := by rw [beq_eq_false_iff_ne]; exact m3
          have HE : Hid (∃ fu, TZ w0 w12 gd g st q (k + 1) (18 + 3 * (k + 1)) (19 + 34 * (k + 1) + 19 * ((k + 1 + 2) / 3)) (k + 1) fu) := ⟨false, HTZ12.out.more (by omega) (by omega) (by omega) (by omega)⟩
          clear HTZ12
          go_wp2
          go_roundw
          case rel => exact ⟨k + 1, by omega, by go_num, HE.out⟩
          case measure => simp [intOf]; omega
      · have m1 : (k : Int) % 2 = 1 := by omega
        go_upto_region 14 with fail
        obtain ⟨sv, hsv⟩ : ∃ sv, sv = 0 := ⟨_, rfl⟩
        obtain ⟨w6, hw6⟩ : ∃ w6, w6 = w5 := ⟨_, rfl⟩
        have hx6 : w6.heap[p]? = some (.cells (evT s sv ⟨lb, 0, none⟩) 41 (0, 0)) := by rw [hw6, hsv]; exact hx5
        have hl6 : w6.heap[lb]? = some (.cells #[.string ⟨#[107]⟩, .string ⟨#[115, 111, 109, 101, 46, 118, 97, 108, 117, 101]⟩] 37 (0, 0)) := by rw [hw6]; exact hl5
        have HB6 : Hid (Below w4.heap.size w4 w6) := by rw [hw6]; exact hb45
        have hsv2 : sv ≤ 2 := by omega
        rw [← hw6]
        clear hw6 hsv hx5 hl5 hb45 m1
        have hb46 : Below w4.heap.size w4 w6 := HB6.out
        have HOF := Lib.hid (of_any 0 s 0 ⟨#[120]⟩ (some ⟨lb, 0, none⟩) 1 1 lbT sv 0 0 0 w6 rfl (fun h => by cases h) (by decide) (rdT hl6))
        have HX6 := Lib.hid hx6
        have HTZ6 := Lib.hid (HTZ4.out.below hb46)
        clear hb46 hx6 hl6
        go_wp2_with (first | (refine wpList_load_row rfl _ _ rfl p rfl _ _ _ _ HX6.out Tryz.underlying41 rfl (by kernel_rfl) ?_) | fail)
        refine HOF.out.mono ?_
        rintro _ w7 ⟨L7, rfl, ho7, hb7⟩
        obtain ⟨A7, c7, rfl⟩ := own_slice ho7
        have hr7 : RdP w7 w7.heap.size A7 lbT := RdP.of_own ho7
        have hA7 : A7 = none → lbT.length = 0 := fun e => by
          rcases ho7.2 with ⟨_, e2⟩ | ⟨g', cap, cur, e1, _⟩
          · cases e2
          · injection e1 with e1; rw [e] at e1; cases e1
        have hn7 : ∀ a, A7 = some a → w6.heap.size ≤ a.block := fun a ha => (ho7.lt a.block (by rw [ha]; rfl)).1
        have hP := tz_put (w1 := w7) (s := s) (sv := sv) (A := A7) (c := c7) HTZ6.out hb7 hs (by omega) (by omega) (by omega) (by omega) (by omega) hA7 hr7 hn7
        have HPU := Lib.hid hP
        clear ho7 hb7 hr7 hA7 hn7 hP HOF HX6 HTZ6
        go_wp2_with fail
        refine HPU.out.mono ?_
        rintro _ w8 ⟨x8, y8, z8, rfl, htz8⟩
        have HSY := Lib.hid (tz_sync htz8 (by omega))
        clear htz8 HPU
        go_wp2_with fail
        refine HSY.out.mono ?_
        rintro _ w9 ⟨rfl, htz9⟩
        obtain ⟨z1, z2, ge, hz12, hz2, hS9, hR9⟩ := tz_sizes htz9
        have HS9 := Lib.hid hS9
        have HR9 := Lib.hid hR9
        have HTZ9 := Lib.hid htz9
        clear htz9 hS9 hR9 HSY
        go_wp2_with fail
        refine (HS9.out w9 (Below.refl _ _)).mono ?_
        rintro _ w10 ⟨rfl, hb10⟩
        have HB10 := Lib.hid hb10
        clear hb10
        go_wp2_with fail
        refine (HR9.out w10 HB10.out).mono ?_
        rintro _ w11 ⟨rfl, hb11⟩
        have hb911 := HB10.out.trans (hb11.mono HB10.out.size)
        have HTZ11 := Lib.hid (HTZ9.out.below hb911)
        have HNM := Lib.hid (tz_names HTZ11.out)
        have f1 : IntKind.i64.wrap ((z2 : Int) + 64) = (z2 : Int) + 64 := by rw [IntKind.wrap_i64]; omega
        have f2 : decide ((z2 : Int) + 64 < (z1 : Int)) = false := decide_eq_false (by omega)
        have f3 : decide (z2 + 64 < z1) = false := decide_eq_false (by omega)
        clear hb11 hb911 HS9 HR9 HB10 HTZ9
        go_wp2_with fail
        refine HNM.out.mono ?_
        rintro _ w12 ⟨A12, c12, rfl, hb12⟩
        have HTZ12 := Lib.hid (HTZ11.out.below hb12)
        clear hb12 HNM HTZ11 f1 f2 f3
        by_cases h3 : k % 3 = 0
        · have m3 : (k : Int) % 3 = 0 := by omega
          have HSP := Lib.hid (tz_spool HTZ12.out)
          go_wp2_with fail
          refine HSP.out.mono ?_
          rintro _ w13 ⟨sq, S13, X13, L13, rfl, hsp13, hn13, hm13, hb13⟩
          have HC13 := Lib.hid (scounts_any w13 hsp13)
          have HTZ13 := Lib.hid (HTZ12.out.below hb13)
          clear hsp13 hb13 HSP HTZ12
          obtain ⟨sz13, hsz13⟩ : ∃ z, z = sumE L13 := ⟨_, rfl⟩
          obtain ⟨ln13, hln13⟩ : ∃ z, z = L13.length := ⟨_, rfl⟩
          obtain ⟨nx, hnx⟩ : ∃ z, z = X13.n := ⟨_, rfl⟩
          obtain ⟨ax, hax⟩ : ∃ z, z = X13.a := ⟨_, rfl⟩
          obtain ⟨vx, hvx⟩ : ∃ z, z = X13.v := ⟨_, rfl⟩
          rw [← hsz13, ← hln13, ← hnx, ← hax, ← hvx] at HC13
          rw [← hnx] at hn13 hm13
          clear hsz13 hln13 hnx hax hvx
          go_wp2_with fail
          refine HC13.out.mono ?_
          rintro _ w14 ⟨rfl, hb14⟩
          have HTZ14 := Lib.hid (HTZ13.out.below hb14)
          obtain ⟨nm, hnm⟩ : ∃ nm, nm = nx - 1 := ⟨_, rfl⟩
          have f4 : IntKind.u64.wrap ((nx : Int) - 1) = (nm : Int) := by rw [IntKind.wrap_u64]; omega
          have f5 : (nx : Int) - 1 = (nm : Int) := by omega
          have hnm2 : nm ≤ 100000 := by omega
          have HAC := Lib.hid (tz_ack (N := nm) HTZ14.out (by omega) (by omega) (by omega))
          clear hb14 HC13 HTZ13 hnm
          go_wp2_with fail
          refine HAC.out.mono ?_
          rintro _ w15 ⟨z15, rfl, htz15⟩
          have HE : Hid (∃ fu, TZ w0 w15 gd g st q (k + 1) (18 + 3 * (k + 1)) (19 + 34 * (k + 1) + 19 * ((k + 1 + 2) / 3)) (k + 1) fu) := ⟨false, htz15.more (by omega) (by omega) (by omega) (by omega)⟩
          clear htz15 HAC HTZ14 f4 f5
          go_wp2
          go_roundw
          case rel => exact ⟨k + 1, by omega, by go_num, HE.out⟩
          case measure => simp [intOf]; omega
        · have m3 : ¬ (k : Int) % 3 = 0 := by omega
          have m4 : ((k : Int) % 3 == 0) = false := by rw [beq_eq_false_iff_ne]; exact m3
          have HE : Hid (∃ fu, TZ w0 w12 gd g st q (k + 1) (18 + 3 * (k + 1)) (19 + 34 * (k + 1) + 19 * ((k + 1 + 2) / 3)) (k + 1) fu) := ⟨false, HTZ12.out.more (by omega) (by omega) (by omega) (by omega)⟩
          clear HTZ12
          go_wp2
          go_roundw
          case rel => exact ⟨k + 1, by omega, by go_num, HE.out⟩
          case measure => simp [intOf]; omega
    · obtain rfl : k = N := by omega
      obtain ⟨fu, htz⟩ := HB.out
      have HSY := Lib.hid (tz_sync htz (by omega))
      clear htz HB HTZ3
      go_wp2_with fail
      refine HSY.out.mono ?_
      rintro _ w4 ⟨rfl, htz4⟩
      obtain ⟨P, R, n, kk, b, cs, syn, h1, h2, h3, h4, h5, h6, h7, h8, h9, h10, h11⟩ := htz4
      obtain ⟨hsyn, hroom⟩ := h11 rfl
      subst hsyn
      have hgen := h1.lv.gen_lt
      have hbge := h1.lv.ge
      have HL4 := Lib.hid h1
      have HW4 := Lib.hid h2
      have HQ4 := Lib.hid (⟨h3, h4, h5, h6⟩ : _ ∧ _ ∧ _ ∧ _)
      have hlen : (joinR cs).length ≤ 20000 := by have h13 : R.first ≤ 16920 := h1.lv.fz; have := h1.lv.q2; omega
      have hn4 : n ≤ 1700 := by omega
      have HLEN := Lib.hid (⟨hlen, hn4, by omega⟩ : _ ∧ _ ∧ b ≤ 12500)
      have HSP := Lib.hid (sto_spool w4 h1.st)
      rw [h5] at HSP
      clear h1 h2 h3 h4 h5 h6 h7 h8 h9 h10 h11 hroom hgen hbge hlen hn4 HSY
      go_wp2_with fail
      refine HSP.out.mono ?_
      rintro _ w5 ⟨sq, S5, rfl, hsp5, -, hb5⟩
      have HBS := Lib.hid (base_any w5 hsp5)
      have HB5 := Lib.hid hb5
      clear hsp5 hb5 HSP
      go_wp2_with fail
      refine HBS.out.mono ?_
      rintro _ w6 ⟨bs, A6, c6, M6, rfl, hbs, hsm, -, -, hb6⟩
      obtain ⟨n6, hn6⟩ : ∃ n6, n6 = M6.length := ⟨_, rfl⟩
      rw [← hn6] at hbs
      have HM6 : Hid (n6 = R.L.length) := by rw [hn6]; exact hsm.len.symm
      have HBV := Lib.hid hbs
      have HB6 := Lib.hid (HB5.out.trans (hb6.mono HB5.out.size))
      clear hn6 hbs hsm hb6 HBS HB5
      go_upto_region 26 with (first
        | (refine wpList_store_row rfl _ _ _ rfl w6.heap.size bs.toArray rfl rfl _ _ (heap_alloc_new _ _) HBV.out.infoA HBV.out.size36 HBV.out.one ?_)
        | fail)
      obtain ⟨V, hV, hbx, hbV⟩ := boxB w6 zeroBase bs
      unfold zeroBase at hV
      rw [← hV]
      obtain ⟨p1, hp1⟩ : ∃ p1, p1 = w6.heap.size := ⟨_, rfl⟩
      rw [← hp1] at hbx ⊢
      have hba : BsAt V p1 R.X (.slice A6 n6 c6) := BsAt.of hbx HBV.out
      have HBA := Lib.hid hba
      have HB7 := Lib.hid (HB6.out.trans (hbV.mono HB6.out.size))
      have HP1 : Hid (w4.heap.size ≤ p1 ∧ p1 < V.heap.size) := ⟨by rw [hp1]; exact HB6.out.size, hba.lt⟩
      clear hV hbx hbV hp1 hba HB6 HBV
      have hS4 : ∀ k, P 0 k → w0.heap.size ≤ k ∧ k < w4.heap.size := fun k hk => ⟨HW4.out.lo 0 k hk, HL4.out.st.own.lt 0 k hk⟩
      have hgS : ¬ P 0 g := fun hk => by
        have := HL4.out.st.own.sep 0 1 _ hk (by rw [← HQ4.out.2.1]; exact HL4.out.st.p1)
        cases this
      have hglt : g < w4.heap.size := by rw [← HQ4.out.2.1]; exact HL4.out.st.own.lt 1 _ HL4.out.st.p1
      have hdtV : DkT V (P 0) gd g [(nmG R.gen, ⟨joinR cs, (joinR cs).length⟩)] n := by
        have h := (HL4.out.below HB7.out).st.dt
        rw [HL4.out.LL, HQ4.out.1, HQ4.out.2.1] at h
        exact h
      have hblV : Below w0.heap.size w0 V := HW4.out.bl.trans (HB7.out.mono HW4.out.bl.size)
      have HS4 := Lib.hid (⟨hS4, hgS, hglt⟩ : _ ∧ _ ∧ _)
      have HDV := Lib.hid (⟨hdtV, hblV⟩ : _ ∧ _)
      clear hS4 hgS hglt hdtV hblV
      have key : ∀ W : World, (∃ S, DkT W S gd g [(nmG R.gen, ⟨joinR cs, (joinR cs).length⟩)] n ∧ (∀ k, S k → w0.heap.size ≤ k) ∧ ¬ S g ∧ ¬ S p1) → Below w0.heap.size w0 W → Calls Tryz.prog 9 #[.pointer (some ⟨gd, 0, none⟩), .pointer (some ⟨g, 0, none⟩), .int .u8 (0 : Nat), .int .i64 q] W fun e w' => ∃ S, (∀ k, S k → w0.heap.size ≤ k) ∧ ¬ S p1 ∧ OplPost W S gd g n 0 q kk b R.ab e w' := by
        rintro W ⟨S, hd, hS, hSg, hSp⟩ hb
        have hG := HG0.out.below hb
        have hgl := HG0.out.l
        have hm : R.ab.m = 1 := HQ4.out.2.2.2
        refine (live_open W hd HL4.out.lv HLEN.out.1 (by rw [hm]; decide) (by have := HLEN.out.2.2; omega) (by have := HLEN.out.2.1; omega) hSg hG.v hG.l (fun h => by have := hS 1 h; omega) (by have := HGW.out.1; omega) hG.e).mono ?_
        intro e w' h
        exact ⟨S, hS, hSp, h⟩
      have KEY := Lib.hid key
      clear key
      cases cr with
      | false =>
        go_upto_region 28 with fail
        obtain ⟨w7, hw7⟩ : ∃ w7, w7 = V := ⟨_, rfl⟩
        have HD7 : Hid ((∃ S, DkT w7 S gd g [(nmG R.gen, ⟨joinR cs, (joinR cs).length⟩)] n ∧ (∀ k, S k → w0.heap.size ≤ k) ∧ ¬ S g ∧ ¬ S p1) ∧ Below w0.heap.size w0 w7) := by
          rw [hw7]
          exact ⟨⟨_, HDV.out.1, fun k hk => (HS4.out.1 k hk).1, HS4.out.2.1, fun hk => by have := (HS4.out.1 _ hk).2; have := HP1.out.1; omega⟩, HDV.out.2⟩
        have HA7 : Hid (BsAt w7 p1 R.X (.slice A6 n6 c6)) := by rw [hw7]; exact HBA.out
        rw [← hw7]
        clear hw7
        have hgp : g ≠ p1 := by have := HS4.out.2.2; have := HP1.out.1; omega
        have HK := Lib.hid (KEY.out w7 HD7.out.1 HD7.out.2)
        have HB7' := Lib.hid HD7.out.2
        clear HD7 KEY HDV
        go_wp2_with fail
        refine HK.out.mono ?_
        rintro _ w8 ⟨S8, hS8, hSp8, P8, R8, cs8, rfl, h8, hP8, ho8, -, hX8, hK8, -, hm8, -, -⟩
        have hb8 : Below w0.heap.size w0 w8 := Only.after HB7'.out ho8 (fun k hk => hk.elim (hS8 k) (fun e => by have := HGW.out.1; omega))
        have hba8 : BsAt w8 p1 R.X (.slice A6 n6 c6) := HA7.out.as (ho8.block p1 HA7.out.lt (fun h => h.elim hSp8 (fun e => hgp e.symm)))
        have hX8' : R8.X = R.X := hX8
        have hL8 : R8.L.length = R.L.length := by
          have e : (ers R8.L).length = (ers R.L).length := congrArg List.length hK8
          rw [ers_len, ers_len] at e
          exact e
        have hm8' : R8.life = 2 := by
          have hm : R.ab.m = 1 := HQ4.out.2.2.2
          rw [hm8, hm]
        have HSP8 := Lib.hid (sto_spool w8 h8.st)
        have HLF := Lib.hid (fun W (hW : Below w8.heap.size w8 W) => sto_life W (h8.st.below hW))
        rw [hX8'] at HSP8
        rw [hm8'] at HLF
        obtain ⟨st8, hst8⟩ : ∃ z, z = R8.st := ⟨_, rfl⟩
        rw [← hst8] at HSP8 HLF ⊢
        have HB8 := Lib.hid hb8
        have HBA8 := Lib.hid hba8
        have HL8 := Lib.hid hL8
        clear h8 hP8 ho8 hX8 hK8 hm8 hb8 hba8 hX8' hL8 hm8' hst8 hS8 hSp8 HA7 HK HB7' hgp
        go_wp2_with fail
        refine HSP8.out.mono ?_
        rintro _ w9 ⟨sq9, S9, rfl, hsp9, -, hb9⟩
        have HBS9 := Lib.hid (base_any w9 hsp9)
        have HB9 := Lib.hid hb9
        clear hsp9 hb9 HSP8
        go_wp2_with fail
        refine HBS9.out.mono ?_
        rintro _ w10 ⟨bs10, A10, c10, M10, rfl, hbs10, hsm10, -, -, hb10⟩
        have hM10 : M10.length = n6 := by rw [HM6.out, ← HL8.out]; exact hsm10.len.symm
        rw [hM10] at hbs10
        have HBV10 := Lib.hid hbs10
        have HB10 := Lib.hid (HB9.out.trans (hb10.mono HB9.out.size))
        clear hbs10 hsm10 hb10 hM10 HBS9 HB9
        go_upto_region 30 with (first
          | (refine wpList_store_row rfl _ _ _ rfl w10.heap.size bs10.toArray rfl rfl _ _ (heap_alloc_new _ _) HBV10.out.infoA HBV10.out.size36 HBV10.out.one ?_)
          | fail)
        obtain ⟨V2, hV2, hbx2, hbV2⟩ := boxB w10 zeroBase bs10
        unfold zeroBase at hV2
        rw [← hV2]
        obtain ⟨p2, hp2⟩ : ∃ p2, p2 = w10.heap.size := ⟨_, rfl⟩
        rw [← hp2] at hbx2 ⊢
        have hb82 : Below w8.heap.size w8 V2 := HB10.out.trans (hbV2.mono HB10.out.size)
        have hba2 : BsAt V2 p2 R.X (.slice A10 n6 c10) := BsAt.of hbx2 HBV10.out
        have hba1 : BsAt V2 p1 R.X (.slice A6 n6 c6) := HBA8.out.below hb82
        obtain ⟨a0, a1, a2, -, a35⟩ := hba1.cell
        obtain ⟨b0, b1, b2, -, b35⟩ := hba2.cell
        have r1 := hba1.his
        have r2 := hba2.his
        have HLF2 := Lib.hid (HLF.out V2 hb82)
        have hbW : Below w.heap.size w V2 := HB0.out.1.trans ((HB8.out.trans (hb82.mono HB8.out.size)).mono HB0.out.1.size)
        have HBW := Lib.hid hbW
        have hinf := hisC_info R.X.h
        have heq := eql_his R.X.h
        obtain ⟨xn, hxn⟩ : ∃ z, z = R.X.n := ⟨_, rfl⟩
        obtain ⟨xa, hxa⟩ : ∃ z, z = R.X.a := ⟨_, rfl⟩
        obtain ⟨xv, hxv⟩ : ∃ z, z = R.X.v := ⟨_, rfl⟩
        obtain ⟨hc, hhc⟩ : ∃ z, z = hisC R.X.h := ⟨_, rfl⟩
        rw [← hxn] at a0 b0
        rw [← hxa] at a1 b1
        rw [← hxv] at a2 b2
        rw [← hhc] at r1 r2 hinf heq
        have HIN := Lib.hid hinf
        clear hV2 hbx2 hbV2 hp2 hba2 hba1 hb82 hbW HBV10 HB10 HBA8 HLF HB8 hxn hxa hxv hhc hinf HBA
        go_wp2_with (first
          | ((with_reducible refine wpList_at8 (op := ⟨some 143, _, _, _, _, _⟩) ?_); refine wpList_load_wanted8 (by rfl) _ _ rfl p1 3 rfl hc _ r1 Tryz.underlying60 rfl HIN.out ?_)
          | ((with_reducible refine wpList_at8 (op := ⟨some 145, _, _, _, _, _⟩) ?_); refine wpList_load_wanted8 (by rfl) _ _ rfl p2 3 rfl hc _ r2 Tryz.underlying60 rfl HIN.out ?_)
          | fail)
        refine HLF2.out.mono ?_
        rintro _ w11 ⟨rfl, rfl⟩
        go_wp2
        go_ret
        exact ⟨rfl, HBW.out⟩
      | true =>
        have hxV : V.heap[tt]? = some (.cells #[.int .u16 tk, .int .u16 tb] 24 (0, 0)) := (HDV.out.2.block tt (by have := HB0.out.2.size; omega)).trans ((HB0.out.2.block tt hlT).trans HXT.out)
        have HXV := Lib.hid hxV
        clear hxV
        go_wp2_with (first | (refine wpList_load_row rfl _ _ rfl tt rfl _ _ _ _ HXV.out Tryz.underlying24 rfl (by kernel_rfl) ?_) | fail)
        have hbA : Below V.heap.size V (V.alloc (.cells #[.int .u16 tk, .int .u16 tb] 24)) := (Below.refl _ _).alloc (Nat.le_refl _) _
        have hxA := heap_alloc_new V (.cells #[.int .u16 tk, .int .u16 tb] 24)
        have hzA : (V.alloc (.cells #[.int .u16 tk, .int .u16 tb] 24)).heap.size = V.heap.size + 1 := by simp
        have HCR := Lib.hid (crash_full (m := 1) (c := 1) (A := some ⟨V.heap.size, 0, none⟩) (ts := [(tk, tb)]) (HDV.out.1.below hbA) HS4.out.2.1 rfl (by decide) (fun _ => ⟨V.heap.size, 0, rfl, by omega, fun i t ht => by
          match i with
          | 0 =>
            have ht : (tk, tb) = t := by simpa using ht
            subst ht
            exact ⟨cell_of_row _ _ 0 _ _ _ hxA, cell_of_row _ _ 1 _ _ _ hxA⟩
          | i + 1 => simp at ht⟩) (fun a ha _ h => by
          injection ha with ha
          rw [← ha] at h
          have h : P 0 V.heap.size := h
          have := (HS4.out.1 _ h).2
          have := HP1.out
          omega) (fun t ht => by
          rw [List.mem_singleton] at ht
          rw [ht]
          exact ⟨htk, htb⟩))
        have HBA2 := Lib.hid (⟨hbA, hzA⟩ : _ ∧ _)
        clear hbA hxA hzA
        refine HCR.out.mono ?_
        rintro _ w7 ⟨rfl, S7, hd7, hst7⟩
        have hnew : ∀ k, S7 k → P 0 k ∨ V.heap.size ≤ k := fun k hk => (hst7.new k hk).imp id (fun h => by have := HBA2.out.2; omega)
        have HD7 : Hid ((∃ S, DkT w7 S gd g [(nmG R.gen, ⟨joinR cs, (joinR cs).length⟩)] n ∧ (∀ k, S k → w0.heap.size ≤ k) ∧ ¬ S g ∧ ¬ S p1) ∧ Below w0.heap.size w0 w7) := by
          refine ⟨⟨S7, hd7, fun k hk => ?_, fun hk => ?_, fun hk => ?_⟩, Only.after (HDV.out.2.trans (HBA2.out.1.mono HDV.out.2.size)) hst7.only (fun k hk => (HS4.out.1 k hk).1)⟩
          · rcases hnew k hk with h | h
            · exact (HS4.out.1 k h).1
            · exact Nat.le_trans HDV.out.2.size h
          · rcases hnew _ hk with h | h
            · exact HS4.out.2.1 h
            · have := HS4.out.2.2; have := HP1.out; omega
          · rcases hnew _ hk with h | h
            · have := (HS4.out.1 _ h).2; have := HP1.out; omega
            · have := HP1.out; omega
        have hbaA := HBA.out.below HBA2.out.1
        have HA7 : Hid (BsAt w7 p1 R.X (.slice A6 n6 c6)) := hbaA.as (hst7.only.block p1 hbaA.lt (fun h => by have := (HS4.out.1 _ h).2; have := HP1.out; omega))
        clear hd7 hst7 hnew hbaA HCR HXV
        have hgp : g ≠ p1 := by have := HS4.out.2.2; have := HP1.out.1; omega
        have HK := Lib.hid (KEY.out w7 HD7.out.1 HD7.out.2)
        have HB7' := Lib.hid HD7.out.2
        clear HD7 KEY HDV
        go_wp2_with fail
        refine HK.out.mono ?_
        rintro _ w8 ⟨S8, hS8, hSp8, P8, R8, cs8, rfl, h8, hP8, ho8, -, hX8, hK8, -, hm8, -, -⟩
        have hb8 : Below w0.heap.size w0 w8 := Only.after HB7'.out ho8 (fun k hk => hk.elim (hS8 k) (fun e => by have := HGW.out.1; omega))
        have hba8 : BsAt w8 p1 R.X (.slice A6 n6 c6) := HA7.out.as (ho8.block p1 HA7.out.lt (fun h => h.elim hSp8 (fun e => hgp e.symm)))
        have hX8' : R8.X = R.X := hX8
        have hL8 : R8.L.length = R.L.length := by
          have e : (ers R8.L).length = (ers R.L).length := congrArg List.length hK8
          rw [ers_len, ers_len] at e
          exact e
        have hm8' : R8.life = 2 := by
          have hm : R.ab.m = 1 := HQ4.out.2.2.2
          rw [hm8, hm]
        have HSP8 := Lib.hid (sto_spool w8 h8.st)
        have HLF := Lib.hid (fun W (hW : Below w8.heap.size w8 W) => sto_life W (h8.st.below hW))
        rw [hX8'] at HSP8
        rw [hm8'] at HLF
        obtain ⟨st8, hst8⟩ : ∃ z, z = R8.st := ⟨_, rfl⟩
        rw [← hst8] at HSP8 HLF ⊢
        have HB8 := Lib.hid hb8
        have HBA8 := Lib.hid hba8
        have HL8 := Lib.hid hL8
        clear h8 hP8 ho8 hX8 hK8 hm8 hb8 hba8 hX8' hL8 hm8' hst8 hS8 hSp8 HA7 HK HB7' hgp
        go_wp2_with fail
        refine HSP8.out.mono ?_
        rintro _ w9 ⟨sq9, S9, rfl, hsp9, -, hb9⟩
        have HBS9 := Lib.hid (base_any w9 hsp9)
        have HB9 := Lib.hid hb9
        clear hsp9 hb9 HSP8
        go_wp2_with fail
        refine HBS9.out.mono ?_
        rintro _ w10 ⟨bs10, A10, c10, M10, rfl, hbs10, hsm10, -, -, hb10⟩
        have hM10 : M10.length = n6 := by rw [HM6.out, ← HL8.out]; exact hsm10.len.symm
        rw [hM10] at hbs10
        have HBV10 := Lib.hid hbs10
        have HB10 := Lib.hid (HB9.out.trans (hb10.mono HB9.out.size))
        clear hbs10 hsm10 hb10 hM10 HBS9 HB9
        go_upto_region 30 with (first
          | (refine wpList_store_row rfl _ _ _ rfl w10.heap.size bs10.toArray rfl rfl _ _ (heap_alloc_new _ _) HBV10.out.infoA HBV10.out.size36 HBV10.out.one ?_)
          | fail)
        obtain ⟨V2, hV2, hbx2, hbV2⟩ := boxB w10 zeroBase bs10
        unfold zeroBase at hV2
        rw [← hV2]
        obtain ⟨p2, hp2⟩ : ∃ p2, p2 = w10.heap.size := ⟨_, rfl⟩
        rw [← hp2] at hbx2 ⊢
        have hb82 : Below w8.heap.size w8 V2 := HB10.out.trans (hbV2.mono HB10.out.size)
        have hba2 : BsAt V2 p2 R.X (.slice A10 n6 c10) := BsAt.of hbx2 HBV10.out
        have hba1 : BsAt V2 p1 R.X (.slice A6 n6 c6) := HBA8.out.below hb82
        obtain ⟨a0, a1, a2, -, a35⟩ := hba1.cell
        obtain ⟨b0, b1, b2, -, b35⟩ := hba2.cell
        have r1 := hba1.his
        have r2 := hba2.his
        have HLF2 := Lib.hid (HLF.out V2 hb82)
        have hbW : Below w.heap.size w V2 := HB0.out.1.trans ((HB8.out.trans (hb82.mono HB8.out.size)).mono HB0.out.1.size)
        have HBW := Lib.hid hbW
        have hinf := hisC_info R.X.h
        have heq := eql_his R.X.h
        obtain ⟨xn, hxn⟩ : ∃ z, z = R.X.n := ⟨_, rfl⟩
        obtain ⟨xa, hxa⟩ : ∃ z, z = R.X.a := ⟨_, rfl⟩
        obtain ⟨xv, hxv⟩ : ∃ z, z = R.X.v := ⟨_, rfl⟩
        obtain ⟨hc, hhc⟩ : ∃ z, z = hisC R.X.h := ⟨_, rfl⟩
        rw [← hxn] at a0 b0
        rw [← hxa] at a1 b1
        rw [← hxv] at a2 b2
        rw [← hhc] at r1 r2 hinf heq
        have HIN := Lib.hid hinf
        clear hV2 hbx2 hbV2 hp2 hba2 hba1 hb82 hbW HBV10 HB10 HBA8 HLF HB8 hxn hxa hxv hhc hinf HBA
        go_wp2_with (first
          | ((with_reducible refine wpList_at8 (op := ⟨some 143, _, _, _, _, _⟩) ?_); refine wpList_load_wanted8 (by rfl) _ _ rfl p1 3 rfl hc _ r1 Tryz.underlying60 rfl HIN.out ?_)
          | ((with_reducible refine wpList_at8 (op := ⟨some 145, _, _, _, _, _⟩) ?_); refine wpList_load_wanted8 (by rfl) _ _ rfl p2 3 rfl hc _ r2 Tryz.underlying60 rfl HIN.out ?_)
          | fail)
        refine HLF2.out.mono ?_
        rintro _ w11 ⟨rfl, rfl⟩
        go_wp2
        go_ret
        exact ⟨rfl, HBW.out⟩
end storeTurns
end Go.Proofs.YtholdcgkhicdmaaGreatDoor
