/- Several texts in one: StoreAgain. -/
import Derived.Test.YtholdcgkhicdmaaGreatDoorZq49
namespace Go.Proofs.YtholdcgkhicdmaaGreatDoor
open Go.RowKit
theorem neq_his (h : Nat → Nat) (W : World) : (binOp .neq 60 (.agg (hisC h).toArray) (.agg (hisC h).toArray)).run Tryz.prog W = .ok (.bool false) W := by
 have hc : Tryz.prog.cellsOf 34 = 1 := by kernel_rfl
 obtain ⟨i0, hi⟩ : ∃ i, Tryz.prog.info? 34 = some i := Option.isSome_iff_exists.1 (by kernel_rfl)
 rw [run_neq_struct, run_equalIn_array (P := Tryz.prog) W 9999 (e := 34) (n := 32) _ _ Tryz.underlying60 hi, hc, eqItems_same (by kernel_rfl) Tryz.underlying34]
 ·rfl
 ·intro i hi
  have hi32 : i < 32 := List.mem_range.1 hi
  refine ⟨(h i : Int), ?_⟩
  rw [Nat.mul_one, List.getElem?_toArray]
  unfold hisC
  rw [List.getElem?_map, List.getElem?_range hi32]
  rfl
theorem range_keep9 {w w' : World} {b o : Nat} {cs : List Value} (h : w.rangeAt b o cs) (hb : Below w.heap.size w w') : w'.rangeAt b o cs := fun j u hj => by
 have h1 := h j u hj
 have hlt : b < w.heap.size := Classical.byContradiction fun hn => by
  have : w.heap[b]? = none := Array.getElem?_eq_none (by omega)
  simp [World.cell?, this] at h1
 have he := hb.block b hlt
 have : w'.cell? ⟨b, o + j, none⟩ = w.cell? ⟨b, o + j, none⟩ := by simp only [World.cell?, he]
 exact this.trans h1
theorem cell_keep {w w' : World} {b o : Nat} {v : Value} (h : w.cell? ⟨b, o, none⟩ = some v) (hb : Below w.heap.size w w') : w'.cell? ⟨b, o, none⟩ = some v := by
 have hr : w.rangeAt b o [v] := fun j u hj => by
  match j with
  | 0 => have hj : v = u := by simpa using hj
         rw [← hj]; exact h
  | j + 1 => simp at hj
 exact (range_keep9 hr hb) 0 _ rfl
structure RdWn (w : World) (B : Nat) (A : Option Addr) (M : List Ett) : Prop where
 rd : RdM8 w A M
 row : ∀ a, A = some a → 0 < M.length → B ≤ a.block
 lab : ∀ e ∈ M, LabNew B e
theorem RdWn.of {w : World} {B c : Nat} {A : Option Addr} {M : List Ett} (h : RowE w B (.slice A M.length c) M) (hn : ∀ e ∈ M, LabNew B e) : RdWn w B A M :=
 ⟨h.rd, fun a ha h0 => (h.own.lt a.block (by rw [ha]; rfl)).1, hn⟩
theorem RdWn.below {w w' : World} {B : Nat} {A : Option Addr} {M : List Ett} (h : RdWn w B A M) (hb : Below w.heap.size w w') : RdWn w' B A M := ⟨h.rd.below hb, h.row, h.lab⟩
theorem RdWn.mono {w : World} {B B' : Nat} {A : Option Addr} {M : List Ett} (h : RdWn w B A M) (hB : B' ≤ B) : RdWn w B' A M := ⟨h.rd, fun a ha h0 => Nat.le_trans hB (h.row a ha h0), fun e he a ha h0 => Nat.le_trans hB (h.lab e he a ha h0)⟩
theorem rdM8_only {w w' : World} {T : Nat → Prop} {A : Option Addr} {M : List Ett} (h : RdM8 w A M) (ho : Only T w w') (hA : ∀ a, A = some a → 0 < M.length → ¬ T a.block) (hL : ∀ e ∈ M, ∀ a, e.A = some a → 0 < e.x.l.length → ¬ T a.block) : RdM8 w' A M := by
 refine ⟨fun h0 => ?_, fun e he => (h.ok e he).only ho (hL e he) (fun _ h => .inl h)⟩
 obtain ⟨b, o, e1, hb, hc⟩ := h.rd h0
 have hne := hA _ e1 h0
 refine ⟨b, o, e1, Nat.lt_of_lt_of_le hb ho.size, fun k e he => ?_⟩
 obtain ⟨h1, h2⟩ := hc k e he
 exact ⟨fun j u hj => (ho.cell (p := ⟨b, o + k * 14 + j, none⟩) hb hne).trans (h1 j u hj), fun j u hj => (ho.cell (p := ⟨b, o + k * 14 + 1 + j, none⟩) hb hne).trans (h2 j u hj)⟩
theorem RdWn.win {w0 V w : World} {gd g q kk b lo hi m : Nat} {X : Sp} {K : List Ett} {A : Option Addr} {M : List Ett} (h : RdWn V lo A M) (hl : LA w0 V w gd g q kk b lo hi m X K) (hV : Below w0.heap.size w0 V) (hhi : hi = V.heap.size) : RdWn w lo A M := by
 have ho : Only (fun k => k < lo) V w := ⟨hl.bl.os.trans hV.os.symm, hl.bl.tape.trans hV.tape.symm, hl.bl.output.trans hV.output.symm, by rw [← hhi]; exact hl.hi_, fun k h1 h2 => hl.win k (by omega) (by omega)⟩
 exact ⟨rdM8_only h.rd ho (fun a ha h0 hk => by have := h.row a ha h0; omega) (fun e he a ha h0 hk => by have := h.lab e he a ha h0; omega), h.row, h.lab⟩
theorem ers_same {L M : List Ett} (h : ers L = ers M) : SameE L M := by
 have e : ∀ Z : List Ett, (ers Z).map (fun e => (e.i, e.x)) = Z.map (fun e => (e.i, e.x)) := fun Z => by unfold ers; rw [List.map_map]; rfl
 unfold SameE
 rw [← e L, ← e M, h]
theorem rdTe_later {w w' : World} {A : Option Addr} {l : List (Nat × Nat)} (h : RdTe w w.heap.size A l) (hb : Below w.heap.size w w') : RdTe w' w'.heap.size A l := fun h0 => by
 obtain ⟨b, o, e, hlt, hc⟩ := h.only (T := fun _ => False) (Only.of_below hb _) (Nat.le_refl _) (fun _ _ _ h => h) h0
 exact ⟨b, o, e, Nat.lt_of_lt_of_le hlt hb.size, hc⟩
theorem RdTe.at2 {w : World} {A : Option Addr} {l : List (Nat × Nat)} (h : RdTe w w.heap.size A l) {k : Nat} {t : Nat × Nat} (ht : l[k]? = some t) : ∃ b o, A = some ⟨b, o, none⟩ ∧ w.rangeAt b (o + k * 2) [.int .u16 t.1, .int .u16 t.2] := by
 obtain ⟨b, o, e, -, hc⟩ := h (Nat.lt_of_le_of_lt (Nat.zero_le _) (List.getElem?_eq_some_iff.1 ht).1)
 obtain ⟨h1, h2⟩ := hc k t ht
 refine ⟨b, o, e, fun j u hj => ?_⟩
 match j with
 | 0 => have hj : Value.int .u16 t.1 = u := by simpa using hj
        rw [← hj]; exact h1
 | 1 => have hj : Value.int .u16 t.2 = u := by simpa using hj
        rw [← hj]; exact h2
 | j + 2 => simp at hj
namespace storeAgain
set_option maxRecDepth 100000 in
set_option maxHeartbeats 8000000 in
theorem walk {ev : Value} (qz : Nat) (A : Option Addr) (n c : Nat) (l : List Sm) (At : Option Addr) (nt ct : Nat) (lt : List (Nat × Nat)) (w : World) (hg : Gl w ev) (hq : qz < 65536) (hn : n = l.length) (hrd : RdM w w.heap.size A l) (hok : ∀ s ∈ l, OkS s) (hnt : nt = lt.length) (hrt : RdTe w w.heap.size At lt) (hot : OkT lt) (hm : n ≤ maxLen) (hmt : nt ≤ maxLen) :
  Calls Tryz.prog 4 #[.int .u16 qz, .slice A n c, .slice At nt ct] w fun e w' => e = .returned (.bool true) ∧ Below w.heap.size w w' := by
 unfold maxLen at hm hmt
 have HG := Lib.hid hg
 have HAW := Lib.hid (awake9_any w hg)
 have HN := Lib.hid hn
 have HOK := Lib.hid hok
 have HRd := Lib.hid hrd
 have HT := Lib.hid (⟨hnt, hrt, hot⟩ : _ ∧ _ ∧ _)
 have hmf : ∀ (fn : Fn) (first cap : Array Value) (w : World), (Instr.makeFunc fn first cap).run Tryz.prog w = .ok (.func fn first cap) w := fun _ _ _ _ => rfl
 obtain ⟨r, hr⟩ : ∃ r, r = qz % 200 := ⟨_, rfl⟩
 obtain ⟨q, hqq⟩ : ∃ q, q = 64 + r := ⟨_, rfl⟩
 have hq1 : 64 ≤ q := by omega
 have hq2 : q ≤ 263 := by omega
 have e1 : (qz : Int) % 200 = (r : Int) := by omega
 have e2 : 64 + (r : Int) = (q : Int) := by omega
 clear hg hn hok hrd hnt hrt hot hr hqq
 go_enter Tryz.func4, Tryz.ntmps4
 go_wp2_with fail
 refine HAW.out.mono ?_
 rintro _ w0 ⟨rfl, hb0⟩
 have HB0 := Lib.hid hb0
 clear hb0 HAW
 by_cases h40 : 40 < n
 ·have d1 : decide ((40 : Int) < (n : Int)) = true := decide_eq_true (by omega)
  have d2 : decide (40 < n) = true := decide_eq_true h40
  go_wp2
  go_ret
  exact ⟨rfl, HB0.out⟩
 have d1 : decide ((40 : Int) < (n : Int)) = false := decide_eq_false (by omega)
 have d2 : decide (40 < n) = false := decide_eq_false h40
 by_cases h6 : 6 < nt
 ·have d3 : decide ((6 : Int) < (nt : Int)) = true := decide_eq_true (by omega)
  have d4 : decide (6 < nt) = true := decide_eq_true h6
  go_wp2
  go_ret
  exact ⟨rfl, HB0.out⟩
 have d3 : decide ((6 : Int) < (nt : Int)) = false := decide_eq_false (by omega)
 have d4 : decide (6 < nt) = false := decide_eq_false h6
 go_wp2_with fail
 refine (new_any w0).mono ?_
 rintro _ w1 ⟨rfl, hw1⟩
 have hd1 : Disk w1 (fun k => k = w0.heap.size) w0.heap.size [] 0 0 := by rw [hw1]; exact Disk.new w0
 have hb1 : Below w0.heap.size w0 w1 := by rw [hw1]; exact (Below.refl _ _).alloc (Nat.le_refl _) _
 have hl1 : w1.heap.size = w0.heap.size + 1 := by rw [hw1]; simp
 obtain ⟨gd, hgd⟩ : ∃ gd, gd = w0.heap.size := ⟨_, rfl⟩
 rw [← hgd] at hd1 ⊢
 have HD1 := Lib.hid hd1
 have HB1 := Lib.hid hb1
 have HZ1 := Lib.hid (⟨hl1, hgd⟩ : _ ∧ _)
 clear hw1 hd1 hb1 hl1 hgd d1 d2 d3 d4
 go_wp2_with fail
 refine (cnew_any w1).mono ?_
 rintro _ w2 ⟨rfl, hb2, hz2, hT2⟩
 obtain ⟨g, hgg⟩ : ∃ g, g = w1.heap.size := ⟨_, rfl⟩
 rw [← hgg] at hT2 ⊢
 have hdt : DkT w2 (fun k => k = gd) gd g [] 0 := ⟨⟨0, 0, Nat.le_refl _, Nat.le_refl _, HD1.out.below hb2⟩, ⟨0, 0, 0, Nat.zero_le _, Nat.le_refl _, Nat.le_refl _, hT2⟩⟩
 have hb02 : Below w0.heap.size w0 w2 := HB1.out.trans (hb2.mono HB1.out.size)
 have hgl := HG.out.l
 have hw0l := HB0.out.size
 have hG2 := (HG.out.below HB0.out).below hb02
 have hne : g ≠ gd := by have := HZ1.out.1; have := HZ1.out.2; omega
 have hgw : w0.heap.size ≤ g := by have := HZ1.out.1; omega
 have hdw : w0.heap.size ≤ gd := by have := HZ1.out.2; omega
 have HF := Lib.hid (live_first (me := 2) (q := q) w2 hdt (by decide) hq1 (by omega) (by decide) hne hG2.v hG2.l (by omega) (by omega) hG2.e)
 have HB2 := Lib.hid hb02
 have HGW := Lib.hid (⟨hgw, hdw, hw0l⟩ : _ ∧ _ ∧ _)
 have HG0 := Lib.hid (HG.out.below HB0.out)
 clear hb2 hz2 hT2 hgg hdt hb02 hG2 hne HD1 hgw hdw HZ1 HB1 hw0l hgl
 go_wp2_with fail
 refine HF.out.mono ?_
 rintro _ w3 hop
 obtain ⟨st, rfl, hta⟩ := ta_first (w0 := w0) hop HB2.out (fun k hk => by have := HGW.out.2.1; omega) HGW.out.1
 have HTA3 := Lib.hid hta
 clear hop hta HF
 go_wp2
 clear e1 e2
 go_loopw [46] (fun iv wx => ∃ k : Nat, k ≤ n ∧ iv = .int .i64 k ∧ Hid (TA w0 wx gd g st q k)) (fun iv _ => n - (intOf iv).toNat)
 case atStart => exact ⟨0, Nat.zero_le _, rfl, HTA3.out⟩
 case round =>
  obtain ⟨k, hk, rfl, HB⟩ := hrel
  by_cases hlt : k < n
  ·have q1 : decide ((k : Int) < (n : Int)) = true := decide_eq_true (by omega)
   have q2 : decide (k < n) = true := decide_eq_true hlt
   obtain ⟨b, off, m, rfl, hbb, hm', hrg⟩ := HRd.out.at_ (k := k) (by rw [← HN.out]; exact hlt)
   have hwb : Below w.heap.size w wr := by
    obtain ⟨P, R, n', kk, b', cs, syn, h1, h2, h3⟩ := HB.out
    exact HB0.out.trans (h2.bl.mono HB0.out.size)
   have hrg2 := range_keep hrg (hwb.block _ hbb)
   have HM := Lib.hid (HOK.out m (List.mem_of_getElem? hm'))
   clear hm' hbb hrg hwb
   go_upto_region 11 with (first
    | (refine wpList_load_mid rfl _ _ rfl b (off + k * 11) rfl (smC m) _ hrg2 Tryz.underlying70 rfl Tryz.infoSm ?_)
    | (refine wpList_store_row rfl _ _ _ rfl wr.heap.size _ rfl rfl _ _ (heap_alloc_new _ _) Tryz.infoSm rfl (by simp [Value.oneCell', smC]) ?_)
    | fail)
   obtain ⟨w4, hw4⟩ : ∃ V, V = (wr.alloc (.cells #[.bool false, .int .u8 0, .int .u8 0, .int .u8 0, .int .u16 0, .int .u16 0, .int .u16 0, .int .u8 0, .int .u8 0, .int .u8 0, .bool false] 70)).setRow wr.heap.size (smC m).toArray := ⟨_, rfl⟩
   rw [← hw4]
   have hX : w4.heap[wr.heap.size]? = some (.cells (smC m).toArray 70 (0, 0)) := by rw [hw4]; exact setRow_heap _ _ _ _ _ _ (heap_alloc_new _ _)
   have hb4 : Below wr.heap.size wr w4 := by rw [hw4]; exact below_setRow ((Below.refl _ _).alloc (Nat.le_refl _) _) (Nat.le_refl _) _
   have hl4 : wr.heap.size < w4.heap.size := (Array.getElem?_eq_some_iff.1 hX).1
   obtain ⟨p, hp⟩ : ∃ p, p = wr.heap.size := ⟨_, rfl⟩
   rw [← hp] at hX hl4 ⊢
   have HX := Lib.hid hX
   have HB4 := Lib.hid hb4
   have HP := Lib.hid hp
   have HSP := Lib.hid (ta_spool ((HB.out.below hb4).below ((Below.refl _ _).drew)))
   clear hw4 hX hb4 hrg2 hp q1 q2
   refine wp_region_noPanic ?_
   refine wp_region_held_drew (S := fun W => W.heap[p]? = some (.cells (smC m).toArray 70 (0, 0))) (by kernel_rfl) ?_ (fun hHeld => ?_)
   ·exact HX.out
   try simp only [heldPut, List.set]
   refine hT 0 (v := ?_) rfl (Or.inl ⟨by rfl, ?_⟩) ?_
   rotate_left
   ·(intro W hSw; (try dsimp only at hSw); go_simp; try with_reducible rfl)
   try simp only [heldPut, List.set]
   refine hT 2 (v := ?_) rfl (Or.inl ⟨by rfl, ?_⟩) ?_
   rotate_left
   ·(intro W hSw; (try dsimp only at hSw); go_simp; try with_reducible rfl)
   try simp only [heldPut, List.set]
   refine hT 1 (v := .agg (smC m).toArray) rfl (Or.inl ⟨by rfl, ?_⟩) ?_
   ·intro W hSw
    exact exec_load_row 70 _ rfl p rfl _ _ _ _ hSw Tryz.underlying70 rfl Tryz.infoSm
   try simp only [heldPut, List.set]
   refine heldOne (i := 3) rfl (by kernel_rfl) (fun K hK => ?_)
   go_simp
   refine HSP.out.mono ?_
   rintro _ w5 ⟨sq, S5, X5, L5, rfl, hsp5, hh5, hb5⟩
   have HB5 : Hid (Below p wr w5) := by rw [HP.out]; exact HB4.out.trans (((Below.refl _ _).drew.trans hb5).mono HB4.out.size)
   have HX5 : Hid (w5.heap[p]? = some (.cells (smC m).toArray 70 (0, 0))) := (hb5.block p hl4).trans HX.out
   have HL5 : Hid (p < w5.heap.size) := Nat.lt_of_lt_of_le hl4 hb5.size
   obtain ⟨hh, hhh⟩ : ∃ z, z = X5.h (m.o % 4) := ⟨_, rfl⟩
   have HNX := Lib.hid (next_new m HM.out w5 hsp5 (hh5 _))
   have hh6 := hh5 (m.o % 4)
   rw [← hhh] at HNX hh6
   have HH5 := Lib.hid hh6
   have HB45 := Lib.hid hb5
   clear hsp5 hh5 hb5 hhh hh6
   go_wp2_with fail
   refine hK.out _ _ ?_ (fun hHeld => ?_)
   ·exact HX5.out
   clear hK K
   try simp only [heldPut, List.set]
   refine hT 4 (v := ?_) rfl (Or.inl ⟨by rfl, ?_⟩) ?_
   rotate_left
   ·(intro W hSw; (try dsimp only at hSw); have f2 := hmf; go_simp; try with_reducible rfl)
   try simp only [heldPut, List.set]
   refine heldOne (i := 5) rfl (by kernel_rfl) (fun K hK => ?_)
   go_simp
   refine HNX.out.mono ?_
   rintro _ w6 ⟨A6, c6, rfl, hA6, hrd6, hb6, hnew6⟩
   obtain ⟨y, hy⟩ : ∃ y, y = nextI m hh := ⟨_, rfl⟩
   have hyl : y.l = (smallI (nextS m)).l := by rw [hy]; exact nextI_l _ _
   rw [← hyl] at hA6 hrd6
   rw [← hy]
   have hb56 : Below wr.heap.size wr w6 := by
    have h1 := HB5.out
    rw [HP.out] at h1
    exact h1.trans (hb6.mono h1.size)
   have HX6 : Hid (w6.heap[p]? = some (.cells (smC m).toArray 70 (0, 0))) := (hb6.block p HL5.out).trans HX5.out
   have hnm : Nm y := by rw [hy]; exact nextI_nm HM.out HH5.out
   have hnl : (itemB y).length ≤ 300 := by rw [hy]; exact (nextI_good HM.out HH5.out).2.2
   have hnb : OkB (1 :: itemB y) := by rw [hy]; exact nextI_okB HM.out HH5.out
   have HPUT := Lib.hid (ta_put (c := c6) HB.out hb56 hnm hnl hnb (by omega) hA6 hrd6 (fun a ha => Nat.le_trans HB5.out.size (hnew6 a ha) |> Nat.le_trans (by have := HP.out; omega)))
   have HL6 : Hid (p < w6.heap.size) := Nat.lt_of_lt_of_le HL5.out hb6.size
   clear hA6 hrd6 hb6 hnew6 hy hyl hb56 hnm hnl hnb HNX
   go_wp2_with fail
   refine hK.out _ _ ?_ (fun hHeld => ?_)
   ·exact HX6.out
   clear hK K
   try simp only [heldPut, List.set]
   refine heldOne (i := 6) rfl (by kernel_rfl) (fun K hK => ?_)
   go_simp
   refine HPUT.out.mono ?_
   rintro _ w7 ⟨xx, yy, zz, rfl, hta7, -, hkeep⟩
   have HT7 := Lib.hid hta7
   have HX7 : Hid (w7.heap[p]? = some (.cells (smC m).toArray 70 (0, 0))) := (hkeep p (by have := HP.out; omega) HL6.out).trans HX6.out
   clear hta7 hkeep HPUT
   go_wp2_with fail
   refine hK.out _ _ ?_ (fun hHeld => ?_)
   ·exact HX7.out
   clear hK K
   try simp only [heldPut, List.set]
   refine wpAnyH_done (by kernel_rfl) ?_ _
   refine NoPanic.normal ?_
   clear HSP HB45
   go_wp2
   go_roundw
   case rel => exact ⟨k + 1, by omega, by go_num, HT7.out⟩
   case measure => simp [intOf]; omega
  ·obtain rfl : k = n := by omega
   have q1 : decide ((k : Int) < (k : Int)) = false := decide_eq_false (by omega)
   have q2 : decide (k < k) = false := decide_eq_false (by omega)
   obtain ⟨P0, R0, nn, kk, b, cs0, syn, h1, h2, h3, h4, h5, h6, h7, h8, h9⟩ := HB.out
   have HSY := Lib.hid (live_sync h1 (by omega))
   rw [h5] at HSY
   have HQ0 := Lib.hid (⟨h2, h3, h4, h6⟩ : _ ∧ _ ∧ _ ∧ _)
   have HNN : Hid (nn ≤ 58 ∧ b ≤ 12379) := ⟨by omega, by omega⟩
   clear h1 h2 h3 h4 h6 h7 h8 h9 HB HTA3
   go_wp2_with fail
   refine HSY.out.mono ?_
   rintro _ w4 ⟨rfl, P, R, cs, g1, g2, g3, gX, gK, gF, gl, gd4, gg4, gs4⟩
   have HL4 := Lib.hid g1
   have HW4 := Lib.hid (HQ0.out.1.mv g2)
   have HQ4 : Hid (R.gd = gd ∧ R.g = g ∧ R.st = st ∧ R.ab.m = 1) := ⟨by rw [gd4, HQ0.out.2.1], by rw [gg4, HQ0.out.2.2.1], gs4, (show R.life = 1 from by rw [gl, HQ0.out.2.2.2])⟩
   have hlen : (joinR cs).length ≤ 20000 := by have h13 : R.first ≤ 16920 := g1.lv.fz; have := g1.lv.q2; omega
   have HLEN := Lib.hid hlen
   have HSP := Lib.hid (sto_spool w4 g1.st)
   rw [gs4] at HSP
   clear g1 g2 g3 gX gK gF gl gd4 gg4 gs4 h5 hlen HSY
   go_wp2_with fail
   refine HSP.out.mono ?_
   rintro _ w5 ⟨sq, S5, rfl, hsp5, -, hb5⟩
   have HBS := Lib.hid (base_any w5 hsp5)
   have HB5 := Lib.hid hb5
   clear hsp5 hb5 HSP
   go_wp2_with fail
   refine HBS.out.mono ?_
   rintro _ w6 ⟨bs, A6, c6, M6, rfl, hbs, hsm, hrow, hlab, hb6⟩
   have hrw := RdWn.of hrow hlab
   obtain ⟨n6, hn6⟩ : ∃ n6, n6 = M6.length := ⟨_, rfl⟩
   rw [← hn6] at hbs
   have HM6 : Hid (n6 = M6.length ∧ SameE R.L M6 ∧ n6 ≤ 1000) := ⟨hn6, hsm, by rw [hn6, ← hsm.len, ← ers_len]; exact Nat.le_trans HL4.out.lv.lg.al.fc.ok.len HL4.out.lv.k2⟩
   have HBV := Lib.hid hbs
   have HRW := Lib.hid hrw
   have HB6 := Lib.hid (HB5.out.trans (hb6.mono HB5.out.size))
   have HZ5 := Lib.hid (⟨HB5.out.size, hb6.size⟩ : _ ∧ _)
   clear hn6 hbs hsm hb6 hrow hlab hrw HBS HB5
   go_upto_region 15 with (first
    | (refine wpList_store_row rfl _ _ _ rfl w6.heap.size bs.toArray rfl rfl _ _ (heap_alloc_new _ _) HBV.out.infoA HBV.out.size36 HBV.out.one ?_)
    | fail)
   obtain ⟨V, hV, hbx, hbV⟩ := boxB w6 zeroBase bs
   unfold zeroBase at hV
   rw [← hV]
   obtain ⟨p1, hp1⟩ : ∃ p1, p1 = w6.heap.size := ⟨_, rfl⟩
   rw [← hp1] at hbx ⊢
   have HBA : Hid (BsAt V p1 R.X (.slice A6 n6 c6)) := BsAt.of hbx HBV.out
   have HRV := Lib.hid ((HRW.out.below hbV).mono HZ5.out.1)
   have HB7 := Lib.hid (HB6.out.trans (hbV.mono HB6.out.size))
   obtain ⟨lo, hlo⟩ : ∃ z, z = w4.heap.size := ⟨_, rfl⟩
   obtain ⟨hi, hhi⟩ : ∃ z, z = V.heap.size := ⟨_, rfl⟩
   have HP1 : Hid (lo ≤ p1 ∧ p1 < hi ∧ hi = V.heap.size) := ⟨by rw [hp1, hlo]; exact HB6.out.size, by rw [hhi]; exact HBA.out.lt, hhi⟩
   rw [← hlo] at HRV
   have hS4 : ∀ k, P 0 k → w0.heap.size ≤ k ∧ (k < lo ∨ hi ≤ k) := fun k hk => ⟨HW4.out.lo 0 k hk, .inl (by rw [hlo]; exact HL4.out.st.own.lt 0 k hk)⟩
   have hgS : ¬ P 0 g := fun hk => by
    have := HL4.out.st.own.sep 0 1 _ hk (by rw [← HQ4.out.2.1]; exact HL4.out.st.p1)
    cases this
   have hglt : g < lo := by rw [← HQ4.out.2.1, hlo]; exact HL4.out.st.own.lt 1 _ HL4.out.st.p1
   have hdtV : DkT V (P 0) gd g [(nmG R.gen, ⟨joinR cs, (joinR cs).length⟩)] (nn + 7) := by
    have h := (HL4.out.below HB7.out).st.dt
    rw [HL4.out.LL, HQ4.out.1, HQ4.out.2.1] at h
    exact h
   have hblV : Below w0.heap.size w0 V := HW4.out.bl.trans (HB7.out.mono HW4.out.bl.size)
   obtain ⟨X, hX⟩ : ∃ z, z = R.X := ⟨_, rfl⟩
   have HLA : Hid (LA w0 V V gd g q kk b lo hi (1 + 0) X R.ab.K) := ⟨⟨P 0, nn + 7, R.gen, cs, R.ab, hdtV, by have := HNN.out.1; omega, HL4.out.lv, hX.symm, rfl, HQ4.out.2.2.2, HLEN.out, hS4, hgS⟩, fun _ _ _ => rfl, hblV, by rw [hhi]; exact Nat.le_refl _⟩
   obtain ⟨K, hK⟩ : ∃ z, z = ers R.L := ⟨_, rfl⟩
   have HLA : Hid (LA w0 V V gd g q kk b lo hi (1 + 0) X K) := by rw [hK]; exact HLA.out
   have HKM : Hid (SameE K M6) := by
    rw [hK]
    have e := ers_same (ers_ers R.L)
    exact e.trans HM6.out.2.1
   rw [← hX] at HBA
   have HBL := Lib.hid (⟨hblV, hglt⟩ : _ ∧ _)
   clear hV hbx hbV hp1 hlo hhi hS4 hgS hglt hdtV hblV hX hK HB6 HBV HB7 HL4 HW4 HQ4 HLEN HRW HZ5 HQ0 q1 q2
   go_wp2_with fail
   go_loopw [65] (fun iv wx => ∃ i : Nat, i ≤ nt ∧ iv = .int .i64 i ∧ Hid (LA w0 V wx gd g q kk (b + 19 * i) lo hi (1 + i) X K)) (fun iv _ => nt - (intOf iv).toNat)
   case atStart => exact ⟨0, Nat.zero_le _, rfl, HLA.out⟩
   case round =>
    obtain ⟨i, hi9, rfl, HB⟩ := hrel
    by_cases hlt2 : i < nt
    ·have q1 : decide ((i : Int) < (nt : Int)) = true := decide_eq_true (by omega)
     have q2 : decide (i < nt) = true := decide_eq_true hlt2
     obtain ⟨ta, hta⟩ : ∃ ta, lt[i]? = some ta := ⟨_, List.getElem?_eq_getElem (by rw [← HT.out.1]; exact hlt2)⟩
     have hbw : Below w.heap.size w wr := HB0.out.trans (HB.out.bl.mono HB0.out.size)
     have hrt : RdTe wr wr.heap.size At lt := rdTe_later HT.out.2.1 hbw
     obtain ⟨bt, ot, rfl, hrt2⟩ := hrt.at2 hta
     have HTA := Lib.hid (HT.out.2.2 ta (List.mem_of_getElem? hta))
     clear hta hbw hrt
     go_upto_region 18 with (first
      | (refine wpList_load_mid rfl _ _ rfl bt (ot + i * 2) rfl [.int .u16 ta.1, .int .u16 ta.2] _ hrt2 Tryz.underlying24 rfl (by kernel_rfl) ?_)
      | (refine wpList_store_row rfl _ _ _ rfl wr.heap.size _ rfl rfl _ _ (heap_alloc_new _ _) (by kernel_rfl) rfl (by simp [Value.oneCell']) ?_)
      | fail)
     obtain ⟨v1, hv1⟩ : ∃ z, z = (wr.alloc (.cells #[.int .u16 0, .int .u16 0] 24)).setRow wr.heap.size #[.int .u16 ta.1, .int .u16 ta.2] := ⟨_, rfl⟩
     rw [← hv1, act_put_no]
     have hxv : v1.heap[wr.heap.size]? = some (.cells #[.int .u16 ta.1, .int .u16 ta.2] 24 (0, 0)) := by rw [hv1]; exact setRow_heap _ _ _ _ _ _ (heap_alloc_new _ _)
     have hbv : Below wr.heap.size wr v1 := by rw [hv1]; exact below_setRow ((Below.refl _ _).alloc (Nat.le_refl _) _) (Nat.le_refl _) _
     obtain ⟨W1, hW1⟩ : ∃ z, z = v1.alloc (.cells #[.int .u16 ta.1, .int .u16 ta.2] 24) := ⟨_, rfl⟩
     have HCR := Lib.hid (la_crash (HB.out.below hbv) hW1 rfl HTA.out)
     have HXV := Lib.hid hxv
     clear hv1 hxv hbv hrt2 HTA q1 q2
     go_wp2_with (first | (refine wpList_load_row rfl _ _ rfl wr.heap.size rfl _ _ _ _ HXV.out Tryz.underlying24 rfl (by kernel_rfl) ?_) | fail)
     rw [← hW1]
     refine HCR.out.mono ?_
     rintro _ w7 ⟨rfl, hla7⟩
     have hnt6 : nt ≤ 6 := by omega
     have HOP := Lib.hid (la_open hla7 HG0.out HGW.out.1 HBL.out.2 (by omega) (by omega) (by have := HNN.out.2; omega))
     clear hla7 hW1 HCR HXV HB
     go_wp2_with fail
     refine HOP.out.mono ?_
     rintro _ w8 ⟨P8, R8, n8, cs8, rfl, hl8, hX8, hK8, hm8, hla8⟩
     obtain ⟨mm, hmm⟩ : ∃ z, z = i + 2 := ⟨_, rfl⟩
     have hm8' : R8.life = mm := by rw [hm8, hmm]; omega
     have e3 : IntKind.u64.wrap (i : Int) = (i : Int) := by rw [IntKind.wrap_u64]; omega
     have e4 : IntKind.u64.wrap ((i : Int) + 2) = (mm : Int) := by rw [IntKind.wrap_u64]; omega
     have e5 : (i : Int) + 2 = (mm : Int) := by omega
     have HLF := Lib.hid (sto_life w8 hl8.st)
     rw [hm8'] at HLF
     have HSP8 := Lib.hid (sto_spool w8 hl8.st)
     have hX8' : R8.X = X := hX8
     rw [hX8'] at HSP8
     have hkm8 : SameE R8.L M6 := by
      have e := ers_same (ers_ers R8.L)
      have hK8' : ers R8.L = K := hK8
      rw [hK8'] at e
      exact e.symm.trans HKM.out
     obtain ⟨st8, hst8⟩ : ∃ z, z = R8.st := ⟨_, rfl⟩
     obtain ⟨L8, hL8⟩ : ∃ z, z = R8.L := ⟨_, rfl⟩
     rw [← hst8] at HLF HSP8 ⊢
     rw [← hL8] at HSP8 hkm8
     have HKM8 := Lib.hid hkm8
     have HLA8 := Lib.hid hla8
     clear hl8 hX8 hK8 hm8 hm8' hla8 hX8' hkm8 hst8 hL8 HOP hmm
     go_wp2_with fail
     refine HLF.out.mono ?_
     rintro _ w9 ⟨rfl, rfl⟩
     clear HLF
     go_wp2_with fail
     refine HSP8.out.mono ?_
     rintro _ w9 ⟨sq9, S9, rfl, hsp9, -, hb9⟩
     clear e3 e4 e5
     have HBS9 := Lib.hid (base_any w9 hsp9)
     have HB9 := Lib.hid hb9
     clear hsp9 hb9 HSP8
     go_wp2_with fail
     refine HBS9.out.mono ?_
     rintro _ w10 ⟨bs10, A10, c10, M10, rfl, hbs10, hsm10, hrow10, hlab10, hb10⟩
     have hM10 : M10.length = n6 := by rw [HM6.out.1, ← HKM8.out.len]; exact hsm10.len.symm
     have hrd10 := hrow10.rd
     rw [hM10] at hbs10
     have HBV10 := Lib.hid hbs10
     have HB10 := Lib.hid (HB9.out.trans (hb10.mono HB9.out.size))
     have HSM10 := Lib.hid (hsm10.symm.trans HKM8.out)
     have HRD10 := Lib.hid hrd10
     clear hbs10 hsm10 hb10 hM10 hrow10 hlab10 hrd10 HBS9 HB9 HKM8
     go_upto_region 23 with (first
      | (refine wpList_store_row rfl _ _ _ rfl w10.heap.size bs10.toArray rfl rfl _ _ (heap_alloc_new _ _) HBV10.out.infoA HBV10.out.size36 HBV10.out.one ?_)
      | fail)
     obtain ⟨V2, hV2, hbx2, hbV2⟩ := boxB w10 zeroBase bs10
     unfold zeroBase at hV2
     rw [← hV2]
     obtain ⟨p2, hp2⟩ : ∃ p2, p2 = w10.heap.size := ⟨_, rfl⟩
     rw [← hp2] at hbx2 ⊢
     have hb82 : Below w8.heap.size w8 V2 := HB10.out.trans (hbV2.mono HB10.out.size)
     have hba2 : BsAt V2 p2 X (.slice A10 n6 c10) := BsAt.of hbx2 HBV10.out
     have hla2 := HLA8.out.below hb82
     have hba1 : BsAt V2 p1 X (.slice A6 n6 c6) := HBA.out.as (hla2.win p1 HP1.out.1 HP1.out.2.1)
     have HRD1 := Lib.hid (HRV.out.win hla2 HBL.out.1 HP1.out.2.2).rd
     have HRD2 := Lib.hid (HRD10.out.below hbV2)
     have HLA2 := Lib.hid hla2
     obtain ⟨a0, a1, a2, -, a35⟩ := hba1.cell
     obtain ⟨b0, b1, b2, -, b35⟩ := hba2.cell
     have r1 := hba1.his
     have r2 := hba2.his
     have HBA1 := Lib.hid hba1
     have HBA2 := Lib.hid hba2
     have hinf := hisC_info X.h
     have heq := neq_his X.h
     obtain ⟨xn, hxn⟩ : ∃ z, z = X.n := ⟨_, rfl⟩
     obtain ⟨xa, hxa⟩ : ∃ z, z = X.a := ⟨_, rfl⟩
     obtain ⟨hc, hhc⟩ : ∃ z, z = hisC X.h := ⟨_, rfl⟩
     rw [← hxn] at a0 b0
     rw [← hxa] at a1 b1
     rw [← hhc] at r1 r2 hinf heq
     have HIN := Lib.hid hinf
     clear hV2 hbx2 hbV2 hp2 hb82 hba2 hla2 hba1 hinf hxn hxa hhc HLA8 HBV10 HB10 HRD10 a2 b2
     go_upto_region 26 with (first
      | ((with_reducible refine wpList_at8 (op := ⟨some 108, _, _, _, _, _⟩) ?_); refine wpList_load_wanted8 (by rfl) _ _ rfl p2 3 rfl hc _ r2 Tryz.underlying60 rfl HIN.out ?_)
      | ((with_reducible refine wpList_at8 (op := ⟨some 110, _, _, _, _, _⟩) ?_); refine wpList_load_wanted8 (by rfl) _ _ rfl p1 3 rfl hc _ r1 Tryz.underlying60 rfl HIN.out ?_)
      | fail)
     have HN6 : Hid (M6.length = n6 ∧ M10.length = n6 ∧ n6 ≤ 1000) := ⟨HM6.out.1.symm, by rw [HM6.out.1]; exact HSM10.out.len, HM6.out.2.2⟩
     clear r1 r2 heq HIN a0 a1 b0 b1 a35 b35
     go_loopw [125] (fun iv wx => ∃ j : Nat, j ≤ n6 ∧ iv = .int .i64 j ∧ Hid (Below V2.heap.size V2 wx)) (fun iv _ => n6 - (intOf iv).toNat)
     case atStart => exact ⟨0, Nat.zero_le _, rfl, Below.refl _ _⟩
     case round =>
      obtain ⟨j, hj9, rfl, HB⟩ := hrel
      by_cases hlt3 : j < n6
      ·have q1 : decide ((j : Int) < (n6 : Int)) = true := decide_eq_true (by omega)
       have q2 : decide (j < n6) = true := decide_eq_true hlt3
       have hn3 := HN6.out.2.2
       obtain ⟨e, he⟩ : ∃ e, M10[j]? = some e := ⟨_, List.getElem?_eq_getElem (by rw [HN6.out.2.1]; exact hlt3)⟩
       obtain ⟨d, hd⟩ : ∃ d, M6[j]? = some d := ⟨_, List.getElem?_eq_getElem (by rw [HN6.out.1]; exact hlt3)⟩
       have hed : (e.i, e.x) = (d.i, d.x) := by
        have h := HSM10.out.get j
        rw [he, hd] at h
        exact Option.some.inj h
       obtain ⟨bx, ox, rfl, -, x1, x2, ex⟩ := (HRD2.out.below HB.out).at_ he
       obtain ⟨bd, od, rfl, -, d1, d2, ed⟩ := (HRD1.out.below HB.out).at_ hd
       obtain ⟨ei, hei⟩ : ∃ z, z = e.i := ⟨_, rfl⟩
       obtain ⟨dx, hdx⟩ : ∃ z, z = e.x := ⟨_, rfl⟩
       have hdi : d.i = ei := by rw [hei]; exact (congrArg Prod.fst hed).symm
       have hxx : d.x = dx := by rw [hdx]; exact (congrArg Prod.snd hed).symm
       rw [hxx] at d2
       rw [← hdx] at x2
       have hx0 : wr.cell? ⟨bx, ox + j * 14, none⟩ = some (.int .u64 ei) := by rw [hei]; exact x1 0 _ rfl
       have hd0 : wr.cell? ⟨bd, od + j * 14, none⟩ = some (.int .u64 ei) := by rw [← hdi]; exact d1 0 _ rfl
       have HX1 : Hid (∀ W, Below wr.heap.size wr W → W.cell? ⟨p2, 35, none⟩ = some (.slice (some ⟨bx, ox, none⟩) n6 c10)) := fun W hW => ((HBA2.out.below HB.out).below hW).cell.2.2.2.2
       have HD1 : Hid (∀ W, Below wr.heap.size wr W → W.cell? ⟨p1, 35, none⟩ = some (.slice (some ⟨bd, od, none⟩) n6 c6)) := fun W hW => ((HBA1.out.below HB.out).below hW).cell.2.2.2.2
       have HX2 : Hid (∀ W, Below wr.heap.size wr W → W.cell? ⟨bx, ox + j * 14, none⟩ = some (.int .u64 ei)) := fun W hW => cell_keep hx0 hW
       have HD2 : Hid (∀ W, Below wr.heap.size wr W → W.cell? ⟨bd, od + j * 14, none⟩ = some (.int .u64 ei)) := fun W hW => cell_keep hd0 hW
       have HX3 : Hid (∀ W, Below wr.heap.size wr W → W.rangeAt bx (ox + j * 14 + 1) (itC dx e.A e.c)) := fun W hW => range_keep9 x2 hW
       have HD3 : Hid (∀ W, Below wr.heap.size wr W → W.rangeAt bd (od + j * 14 + 1) (itC dx d.A d.c)) := fun W hW => range_keep9 d2 hW
       have HSI : Hid (∀ W, Below wr.heap.size wr W → Calls Tryz.prog 25 #[.agg (itC dx e.A e.c).toArray, .agg (itC dx d.A d.c).toArray] W fun e w' => e = .returned (.bool true) ∧ Below W.heap.size W w') := fun W hW => by
        have s1 := (ex.below hW).rd
        have s2 := (ed.below hW).rd
        rw [← hdx] at s1
        rw [hxx] at s2
        have h := hsame_any dx dx e.A d.A e.c d.c W (by rw [hdx]; exact ex.ln) s1 s2
        rwa [sameI_refl] at h
       clear he hd hed x1 x2 ex d1 d2 ed hei hdx hdi hxx hx0 hd0
       go_upto_region 28 with fail
       refine wp_region_noPanic ?_
       refine wp_region_held_drew (S := fun W => Below wr.heap.size wr W) (by kernel_rfl) ?_ (fun hHeld => ?_)
       ·exact (Below.refl _ _).drew
       try simp only [heldPut, List.set]
       refine hT 0 (v := ?_) rfl (Or.inl ⟨by rfl, ?_⟩) ?_
       rotate_left
       ·(intro W hSw; (try dsimp only at hSw); go_simp; try with_reducible rfl)
       try simp only [heldPut, List.set]
       refine hT 2 (v := ?_) rfl (Or.inl ⟨by rfl, ?_⟩) ?_
       rotate_left
       ·(intro W hSw; (try dsimp only at hSw); go_simp; try with_reducible rfl)
       try simp only [heldPut, List.set]
       refine hT 1 (v := ?_) rfl (Or.inl ⟨by rfl, ?_⟩) ?_
       rotate_left
       ·(intro W hSw; (try dsimp only at hSw); have f2 := HX1.out W hSw; go_simp; try with_reducible rfl)
       try simp only [heldPut, List.set]
       refine hT 3 (v := ?_) rfl (Or.inl ⟨by rfl, ?_⟩) ?_
       rotate_left
       ·(intro W hSw; (try dsimp only at hSw); go_simp; try with_reducible rfl)
       try simp only [heldPut, List.set]
       refine hT 4 (v := ?_) rfl (Or.inl ⟨by rfl, ?_⟩) ?_
       rotate_left
       ·(intro W hSw; (try dsimp only at hSw); go_simp; try with_reducible rfl)
       try simp only [heldPut, List.set]
       refine hT 5 (v := ?_) rfl (Or.inl ⟨by rfl, ?_⟩) ?_
       rotate_left
       ·(intro W hSw; (try dsimp only at hSw); have f2 := HX2.out W hSw; go_simp; try with_reducible rfl)
       try simp only [heldPut, List.set]
       refine hT 6 (v := ?_) rfl (Or.inl ⟨by rfl, ?_⟩) ?_
       rotate_left
       ·(intro W hSw; (try dsimp only at hSw); go_simp; try with_reducible rfl)
       try simp only [heldPut, List.set]
       refine hT 7 (v := ?_) rfl (Or.inl ⟨by rfl, ?_⟩) ?_
       rotate_left
       ·(intro W hSw; (try dsimp only at hSw); have f2 := HD1.out W hSw; go_simp; try with_reducible rfl)
       try simp only [heldPut, List.set]
       refine hT 8 (v := ?_) rfl (Or.inl ⟨by rfl, ?_⟩) ?_
       rotate_left
       ·(intro W hSw; (try dsimp only at hSw); go_simp; try with_reducible rfl)
       try simp only [heldPut, List.set]
       refine hT 9 (v := ?_) rfl (Or.inl ⟨by rfl, ?_⟩) ?_
       rotate_left
       ·(intro W hSw; (try dsimp only at hSw); go_simp; try with_reducible rfl)
       try simp only [heldPut, List.set]
       refine hT 10 (v := ?_) rfl (Or.inl ⟨by rfl, ?_⟩) ?_
       rotate_left
       ·(intro W hSw; (try dsimp only at hSw); go_simp; try with_reducible rfl)
       try simp only [heldPut, List.set]
       refine hT 11 (v := ?_) rfl (Or.inl ⟨by rfl, ?_⟩) ?_
       rotate_left
       ·(intro W hSw; (try dsimp only at hSw); have f2 := HD2.out W hSw; go_simp; try with_reducible rfl)
       try simp only [heldPut, List.set]
       refine hT 12 (v := ?_) rfl (Or.inl ⟨by rfl, ?_⟩) ?_
       rotate_left
       ·(intro W hSw; (try dsimp only at hSw); go_simp; try with_reducible rfl)
       try simp only [heldPut, List.set]
       refine hT 13 (v := ?_) rfl (Or.inl ⟨by rfl, ?_⟩) ?_
       rotate_left
       ·(intro W hSw; (try dsimp only at hSw); go_simp; try with_reducible rfl)
       try simp only [heldPut, List.set]
       refine hT 14 (v := ?_) rfl (Or.inl ⟨by rfl, ?_⟩) ?_
       rotate_left
       ·(intro W hSw; (try dsimp only at hSw); go_simp; try with_reducible rfl)
       try simp only [heldPut, List.set]
       refine hT 15 (v := ?_) rfl (Or.inl ⟨by rfl, ?_⟩) ?_
       rotate_left
       ·(intro W hSw; (try dsimp only at hSw); have f2 := HX1.out W hSw; go_simp; try with_reducible rfl)
       try simp only [heldPut, List.set]
       refine hT 16 (v := ?_) rfl (Or.inl ⟨by rfl, ?_⟩) ?_
       rotate_left
       ·(intro W hSw; (try dsimp only at hSw); go_simp; try with_reducible rfl)
       try simp only [heldPut, List.set]
       refine hT 17 (v := ?_) rfl (Or.inl ⟨by rfl, ?_⟩) ?_
       rotate_left
       ·(intro W hSw; (try dsimp only at hSw); go_simp; try with_reducible rfl)
       try simp only [heldPut, List.set]
       refine hT 18 (v := ?_) rfl (Or.inl ⟨by rfl, ?_⟩) ?_
       rotate_left
       ·(intro W hSw; (try dsimp only at hSw); go_simp; try with_reducible rfl)
       try simp only [heldPut, List.set]
       refine hT 19 (v := .agg (itC dx e.A e.c).toArray) rfl (Or.inl ⟨by rfl, ?_⟩) ?_
       ·intro W hSw
        exact exec_load_mid 47 _ rfl bx (ox + j * 14 + 1) rfl _ _ (HX3.out W hSw) Tryz.underlying47 rfl Tryz.infoIt
       try simp only [heldPut, List.set]
       refine hT 20 (v := ?_) rfl (Or.inl ⟨by rfl, ?_⟩) ?_
       rotate_left
       ·(intro W hSw; (try dsimp only at hSw); go_simp; try with_reducible rfl)
       try simp only [heldPut, List.set]
       refine hT 21 (v := ?_) rfl (Or.inl ⟨by rfl, ?_⟩) ?_
       rotate_left
       ·(intro W hSw; (try dsimp only at hSw); have f2 := HD1.out W hSw; go_simp; try with_reducible rfl)
       try simp only [heldPut, List.set]
       refine hT 22 (v := ?_) rfl (Or.inl ⟨by rfl, ?_⟩) ?_
       rotate_left
       ·(intro W hSw; (try dsimp only at hSw); go_simp; try with_reducible rfl)
       try simp only [heldPut, List.set]
       refine hT 23 (v := ?_) rfl (Or.inl ⟨by rfl, ?_⟩) ?_
       rotate_left
       ·(intro W hSw; (try dsimp only at hSw); go_simp; try with_reducible rfl)
       try simp only [heldPut, List.set]
       refine hT 24 (v := ?_) rfl (Or.inl ⟨by rfl, ?_⟩) ?_
       rotate_left
       ·(intro W hSw; (try dsimp only at hSw); go_simp; try with_reducible rfl)
       try simp only [heldPut, List.set]
       refine hT 25 (v := .agg (itC dx d.A d.c).toArray) rfl (Or.inl ⟨by rfl, ?_⟩) ?_
       ·intro W hSw
        exact exec_load_mid 47 _ rfl bd (od + j * 14 + 1) rfl _ _ (HD3.out W hSw) Tryz.underlying47 rfl Tryz.infoIt
       try simp only [heldPut, List.set]
       refine heldOne (i := 26) rfl (by kernel_rfl) (fun K hK => ?_)
       go_simp
       refine (HSI.out _ (Below.refl _ _).drew).mono ?_
       rintro _ w11 ⟨rfl, hb11⟩
       have HB11 : Hid (Below wr.heap.size wr w11) := ((Below.refl _ _).drew).trans hb11
       clear hb11
       go_wp2_with fail
       refine hK.out _ _ ?_ (fun hHeld => ?_)
       ·exact HB11.out
       clear hK K
       try simp only [heldPut, List.set]
       refine hT 27 (v := ?_) rfl (Or.inl ⟨by rfl, ?_⟩) ?_
       rotate_left
       ·(intro W hSw; (try dsimp only at hSw); go_simp; try with_reducible rfl)
       try simp only [heldPut, List.set]
       refine hT 28 (v := ?_) rfl (Or.inl ⟨by rfl, ?_⟩) ?_
       rotate_left
       ·(intro W hSw; (try dsimp only at hSw); go_simp; try with_reducible rfl)
       try simp only [heldPut, List.set]
       refine wpAnyH_done (by kernel_rfl) ?_ _
       refine NoPanic.normal ?_
       have HBE := Lib.hid (HB.out.trans (HB11.out.mono HB.out.size))
       clear HB11 HX1 HX2 HX3 HD1 HD2 HD3 HSI hHeld
       go_wp2_with fail
       exact ⟨⟨j + 1, by omega, by go_num, HBE.out⟩, by simp [intOf]; omega⟩
      ·obtain rfl : n6 = j := by omega
       have q1 : decide ((n6 : Int) < (n6 : Int)) = false := decide_eq_false (by omega)
       have q2 : decide (n6 < n6) = false := decide_eq_false (by omega)
       have hla : LA w0 V wr gd g q kk (b + 19 * (i + 1)) lo hi (1 + (i + 1)) X K := by
        have h := HLA2.out.below HB.out
        rw [show b + 19 * i + 19 = b + 19 * (i + 1) by omega, show 1 + i + 1 = 1 + (i + 1) by omega] at h
        exact h
       have HLE := Lib.hid hla
       clear hla HLA2 HRD1 HRD2 HBA1 HBA2
       go_wp2_with fail
       exact ⟨⟨i + 1, by omega, by go_num, HLE.out⟩, by simp [intOf]; omega⟩
    ·obtain rfl : nt = i := by omega
     have q1 : decide ((nt : Int) < (nt : Int)) = false := decide_eq_false (by omega)
     have q2 : decide (nt < nt) = false := decide_eq_false (by omega)
     have hbw : Below w.heap.size w wr := HB0.out.trans (HB.out.bl.mono HB0.out.size)
     have HBW := Lib.hid hbw
     clear hbw
     go_wp2_with fail
     go_ret
     exact ⟨rfl, HBW.out⟩
end storeAgain
end Go.Proofs.YtholdcgkhicdmaaGreatDoor