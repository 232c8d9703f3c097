/- Several texts in one: SpFills, SpListN. -/
import Derived.Test.YtgcfofnlgdfmoaaMf10
import Derived.Test.YtgcfofnlgdfmoaaMf33
import Derived.Test.YtgcfofnlgdfmoaaMf34
/- Layer 8: what the statements that fill a spool share: a quota from a small number, a whole list, rows of entries that are read. -/
namespace Go.Proofs.Ytgcfofnlgdfmoaa
open Go.RowKit

theorem new64 (r : Nat) (h : r < 400) (w0 w : World) (hb : Below w0.heap.size w0 w) : Calls Try.prog 20 #[.int .i64 (64 + (r : Int))] w fun e w' => e = .returned (.tuple #[.pointer (some ⟨w.heap.size, 0, none⟩), .int .i64 0]) ∧ SpW w0 w' (fun k => k = w.heap.size) w.heap.size (64 + r) 0 ⟨64 + r, 1, 0, 0, fun _ => 0⟩ [] := by
  have h1 := snew_any (64 + r) (by omega) (by omega) w
  rw [show ((64 + r : Nat) : Int) = 64 + (r : Int) by omega] at h1
  refine h1.mono ?_
  rintro e w' ⟨he, hs, hb'⟩
  exact ⟨he, hs, SpOk.new _, rfl, fun j hj => by have := hb.size; have hj : j = w.heap.size := hj; omega, hb.trans (hb'.mono hb.size)⟩
/-- entries at A are read as they are, below no world -/
structure RdM8 (w : World) (A : Option Addr) (M : List Ett) : Prop where
  rd : RdE w A M
  ok : OkE w M
theorem RdM8.below {w w' : World} {A : Option Addr} {M : List Ett} (h : RdM8 w A M) (hb : Below w.heap.size w w') : RdM8 w' A M := ⟨h.rd.below hb, h.ok.below hb⟩
theorem RowE.rd {w : World} {base : Nat} {A : Option Addr} {c : Nat} {M : List Ett} (h : RowE w base (.slice A M.length c) M) : RdM8 w A M := by
  refine ⟨fun h0 => ?_, fun e he => (h.ok e he).free⟩
  obtain ⟨b, c', hv, _, hlt⟩ := h.own.form h0
  injection hv with hv1 _ hv3
  subst hv1
  refine ⟨b, 0, rfl, hlt, fun k e he => ?_⟩
  have hc : ∀ (j : Nat) u, (entC e)[j]? = some u → w.cell? ⟨b, k * 14 + j, none⟩ = some u := fun j u hj => by
    have := h.own.cells (g := b) rfl _ _ (cellsE_get he hj)
    rw [Addr.add_lit, Nat.zero_add] at this
    exact this
  refine ⟨fun j u hj => ?_, fun j u hj => ?_⟩
  · rw [Nat.zero_add]; exact hc j u hj
  · have := hc (j + 1) u hj
    rw [show 0 + k * 14 + 1 + j = k * 14 + (j + 1) by omega]
    exact this
theorem RdM8.at_ {w : World} {A : Option Addr} {M : List Ett} (h : RdM8 w A M) {k : Nat} {e : Ett} (he : M[k]? = some e) : ∃ b o, A = some ⟨b, o, none⟩ ∧ b < w.heap.size ∧ w.rangeAt b (o + k * 14) (entC e) ∧ w.rangeAt b (o + k * 14 + 1) (itC e.x e.A e.c) ∧ EntOk w (fun _ => False) e := by
  have hk := (List.getElem?_eq_some_iff.1 he).1
  obtain ⟨b, o, h1, h2, h3⟩ := h.rd (by omega)
  exact ⟨b, o, h1, h2, (h3 k e he).1, (h3 k e he).2, h.ok e (List.mem_of_getElem? he)⟩
/-- all that waits -/
theorem listAll_any {w0 w : World} {S : Nat → Prop} {s q k : Nat} {X : Sp} {L : List Ett} (hs : SpW w0 w S s q k X L) (hk : k ≤ 1000) :
    Calls Try.prog 23 #[.pointer (some ⟨s, 0, none⟩), .int .u64 0, .int .i64 1000] w fun e w' => ∃ A' c' M, e = .returned (.slice A' M.length c') ∧ SameE L M ∧ RdM8 w' A' M ∧ Below w.heap.size w w' := by
  refine (list_any (N := 0) 1000 (by decide) (by decide) w hs.at_ hs.ok.riseE).mono ?_
  rintro e w' ⟨A', c', M, m, he, hsm, hrow, hm, hlo, hhi, hb⟩
  have hm0 : m = 0 := by
    rcases Nat.eq_zero_or_pos m with h | h
    · exact h
    · have h1 := hlo 0 h
      have hl : 0 < L.length := by omega
      have h2 := (hs.ok.ix L[0].i (List.mem_map_of_mem (List.getElem_mem hl))).1
      have : idxE L 0 = L[0].i := by unfold idxE; rw [List.getElem?_eq_getElem hl]; rfl
      omega
  subst hm0
  have hlen := hs.ok.len
  have hL : listE L 0 (min (1000 : Int).toNat (L.length - 0)) = L := by
    unfold listE
    rw [List.drop_zero, List.take_of_length_le (by have : (1000 : Int).toNat = 1000 := rfl; omega)]
  rw [hL] at hsm
  exact ⟨A', c', M, he, hsm, hrow.rd, hb⟩
theorem min_succ_lt {k m : Nat} (h : k < m) : min (k + 1) m = min k m + 1 := by omega
end Go.Proofs.Ytgcfofnlgdfmoaa
/- Layer 8: List, with what its contract leaves out: its labels lie in blocks of their own. -/
namespace Go.Proofs.Ytgcfofnlgdfmoaa
open Go.RowKit

/-- an entry's labels lie at or above block B -/
def LabNew (B : Nat) (e : Ett) : Prop := ∀ a, e.A = some a → 0 < e.x.l.length → B ≤ a.block
set_option maxRecDepth 100000 in
set_option maxHeartbeats 2000000 in
/-- entries with labels of their own -/
theorem clones_new (A : Option Addr) (n c : Nat) (L : List Ett) (w : World) (hn : n = L.length) (hm : n ≤ 100000) (hA : A = none → n = 0) (hs : ∀ W, Below w.heap.size w W → Src W A n 14 (cellsE L)) (hok : OkE w L) :
    Calls Try.prog 48 #[.slice A n c] w fun e w' => ∃ A' c' M, e = .returned (.slice A' n c') ∧ SameE L M ∧ RowE w' w.heap.size (.slice A' n c') M ∧ Below w.heap.size w w' ∧ (∀ e ∈ M, LabNew w.heap.size e) := by
  have HCL := Lib.hid (clone_S A n c L w hn hm hA hs)
  have HN := Lib.hid hn
  have HO := Lib.hid hok
  clear hn hok hs hA
  go_enter Try.func48, Try.ntmps48
  go_wp2_with fail
  refine HCL.out.mono ?_
  rintro _ w1 ⟨A', c', rfl, ho1, hb1⟩
  have hr1 : RowE w1 w.heap.size (.slice A' n c') L := ⟨by rw [← HN.out]; exact ho1, fun e he => by
    have q := HO.out e he
    have qb := q.below hb1
    exact ⟨q.ok, q.sh, q.ln, q.lb, q.ix, q.nil, qb.rd, fun a ha h0 hk => by have h1 := rdP_lt q.rd ha h0; have h2 := (ho1.lt _ hk).1; omega⟩⟩
  have HR1 := Lib.hid hr1
  have HB1 := Lib.hid hb1
  clear ho1 hb1 hr1 HCL HO
  go_wp2
  go_loopw [10] (fun iv wx => ∃ (k : Nat) (M : List Ett), k ≤ n ∧ iv = .int .i64 k ∧ Hid (SameE L M) ∧ Hid (RowE wx w.heap.size (.slice A' n c') M) ∧ Hid (Below w.heap.size w wx) ∧ Hid (∀ j e, j < k → M[j]? = some e → LabNew w.heap.size e)) (fun iv _ => n - (intOf iv).toNat)
  case atStart => exact ⟨0, L, Nat.zero_le _, rfl, rfl, HR1.out, HB1.out, fun j e hj => by omega⟩
  case round =>
    obtain ⟨k, M, hk, rfl, HSM, HR, HB, HNW⟩ := hrel
    have hlM : M.length = n := by rw [HN.out]; exact HSM.out.len.symm
    by_cases hlt : k < n
    · obtain ⟨m, hm2⟩ : ∃ m, M[k]? = some m := ⟨M[k]'(by omega), List.getElem?_eq_getElem _⟩
      have hent := HR.out.ok m (List.mem_iff_getElem?.2 ⟨k, hm2⟩)
      have hown := HR.out.own
      rw [hlM] at hown
      obtain ⟨b, cc, hv, _, hbl⟩ := hown.form (by omega)
      injection hv with hv1 hv2 hv3
      subst hv1
      have hbw : w.heap.size ≤ b := (hown.lt b rfl).1
      have hrg : wr.rangeAt b (k * 14) (entC m) := fun j u hj => by
        have := hown.cells (g := b) rfl _ _ (cellsE_get hm2 hj)
        rw [Addr.add_lit, Nat.zero_add] at this
        exact this
      have HM := Lib.hid hm2
      have HE := Lib.hid hent
      have HOWN := Lib.hid hown
      have HLM := Lib.hid hlM
      clear hm2 hent hown hv2 hv3 hlM
      go_upto_region 5 with (first
        | (refine wpList_load_mid rfl _ _ rfl b (k * 14) rfl (entC m) _ hrg Try.underlying68 rfl Try.infoEn ?_)
        | (refine wpList_store_row rfl _ _ _ rfl wr.heap.size _ rfl rfl _ _ (heap_alloc_new _ _) Try.infoEn rfl (by simp [Value.oneCell', entC, itC]) ?_)
        | fail)
      obtain ⟨V, hV, -, hbV, hrV, hlV⟩ := boxE wr _ m
      rw [← hV, act_put_no]
      have hq2 := HE.out.below hbV
      have HOV := Lib.hid (ownB_below HOWN.out hbV)
      have HBV := Lib.hid (HB.out.trans (hbV.mono HB.out.size))
      have HbV := Lib.hid hbV
      have HCC := Lib.hid (iclone_C m.x m.A m.x.l.length m.c V rfl hq2.nil (by have := hq2.ln; omega) hq2.rd)
      clear hV hbV hq2 hrg
      go_wp2_with (first | (refine wpList_load_mid rfl _ _ rfl wr.heap.size 1 rfl (itC m.x m.A m.c) _ hrV Try.underlying60 rfl Try.infoIt ?_) | fail)
      refine HCC.out.mono ?_
      rintro _ w4 ⟨A4, c4, rfl, ho4, hb4⟩
      have HO4 := Lib.hid ho4
      have hown4 := ownB_below HOV.out hb4
      have HOW4 := Lib.hid hown4
      have HB4 := Lib.hid (HBV.out.trans (hb4.mono HBV.out.size))
      have Hb4 := Lib.hid (HbV.out.trans (hb4.mono HbV.out.size))
      have hth : Hid (w4.there b (k * 14 + 1) 13) := own_there hown4 (by omega)
      have hz4 := hb4.size
      have hsc : (storeCells ⟨b, k * 14 + 1, none⟩ (itC m.x A4 c4)).run Try.prog w4 = .ok () (w4.setCells b (k * 14 + 1) (itC m.x A4 c4)) := by
        have h13 : (itC m.x A4 c4).length = 13 := rfl
        have := run_storeCells_cells (P := Try.prog) b (k * 14 + 1) (itC m.x A4 c4) 0 w4 (fun j hj => by rw [h13] at hj; simpa using (hth.out j hj).1) (fun j hj => by rw [h13] at hj; simpa using (hth.out j hj).2) (fun v hv => by
          simp only [itC, List.mem_cons, List.not_mem_nil, or_false] at hv
          rcases hv with rfl | rfl | rfl | rfl | rfl | rfl | rfl | rfl | rfl | rfl | rfl | rfl | rfl <;> rfl)
        simpa using this
      clear hb4 hrV HCC ho4 hown4
      go_wp2
      have hw5 : Only (fun q => q = b) w4 (w4.setCells b (k * 14 + 1) (itC m.x A4 c4)) := onlyCells (T := fun q => q = b) rfl _ _ _
      obtain ⟨w5, hw5e⟩ : ∃ w5, w5 = w4.setCells b (k * 14 + 1) (itC m.x A4 c4) := ⟨_, rfl⟩
      have hown5 : w5.ownsRow w.heap.size 68 14 (.slice (some ⟨b, 0, none⟩) n c') n (cellsE (M.set k ⟨m.i, m.x, A4, c4⟩)) := by
        have := own_setCells (itC m.x A4 c4) (k * 14 + 1) HOW4.out
        rw [cellsE_setL m.x A4 c4 HM.out] at this
        rw [hw5e]
        exact this
      rw [← hw5e] at hw5 ⊢
      have hlow : Below w.heap.size w w5 := HB4.out.trans ⟨hw5.os, hw5.tape, hw5.output, hw5.size, fun q hq => hw5.block q (Nat.lt_of_lt_of_le hq HB4.out.size) (fun e => by have e : q = b := e; omega)⟩
      have hrow : RowE w5 w.heap.size (.slice (some ⟨b, 0, none⟩) n c') (M.set k ⟨m.i, m.x, A4, c4⟩) := by
        refine ⟨by rw [List.length_set, HLM.out]; exact hown5, fun e he => ?_⟩
        rcases List.mem_or_eq_of_mem_set he with he | rfl
        · have q := (HR.out.ok e he).below Hb4.out
          exact q.only hw5 (fun a ha h0 e' => q.ap a ha h0 (by have e' : a.block = b := e'; rw [e']; rfl)) (fun _ h => .inl h)
        · have q := HE.out
          have hp := RdP.of_own HO4.out
          refine ⟨q.ok, q.sh, q.ln, q.lb, q.ix, own_nilA HO4.out, hw5.rdP hp (fun a ha h0 e' => ?_), fun a ha h0 e' => ?_⟩
          · have ha : A4 = some a := ha
            have h1 := (HO4.out.lt a.block (by rw [ha]; rfl)).1
            have e' : a.block = b := e'
            have := Hb4.out.size
            omega
          · have ha : A4 = some a := ha
            have h1 := (HO4.out.lt a.block (by rw [ha]; rfl)).1
            injection e' with e'
            have e' : b = a.block := e'
            have := Hb4.out.size
            omega
      have HNW2 : Hid (∀ j e, j < k + 1 → (M.set k ⟨m.i, m.x, A4, c4⟩)[j]? = some e → LabNew w.heap.size e) := fun j e hj he => by
        by_cases hjk : j = k
        · subst hjk
          rw [List.getElem?_set_self (List.getElem?_eq_some_iff.1 HM.out).1] at he
          injection he with he
          subst he
          intro a ha h0
          have ha : A4 = some a := ha
          have h1 := (HO4.out.lt a.block (by rw [ha]; rfl)).1
          have h2 := HBV.out.size
          omega
        · rw [List.getElem?_set_ne (fun h => hjk h.symm)] at he
          exact HNW.out j e (by omega) he
      have HLO := Lib.hid hlow
      have HRW := Lib.hid hrow
      have HSS : Hid (SameE L (M.set k ⟨m.i, m.x, A4, c4⟩)) := HSM.out.set HM.out ⟨rfl, rfl⟩
      clear hw5 hw5e hown5 hlow hrow hsc
      go_roundw
      case rel => exact ⟨k + 1, _, by omega, by go_num, HSS.out, HRW.out, HLO.out, HNW2.out⟩
      case measure => simp [intOf]; omega
    · obtain rfl : k = n := by omega
      go_wp2
      go_ret
      exact ⟨A', c', M, rfl, HSM.out, HR.out, HB.out, fun e he => by
        obtain ⟨j, hj, hje⟩ := List.getElem_of_mem he
        exact HNW.out j e (by omega) (by rw [List.getElem?_eq_getElem hj, hje])⟩

set_option maxRecDepth 100000 in
set_option maxHeartbeats 2000000 in
theorem list_new {S : Nat → Prop} {s N : Nat} {X : Sp} {L : List Ett} (z : Int) (_ : -9223372036854775808 ≤ z) (_ : z < 9223372036854775808) (w : World) (h : SpAt w S s X L) (hrise : RiseE L) :
    Calls Try.prog 23 #[.pointer (some ⟨s, 0, none⟩), .int .u64 N, .int .i64 z] w fun e w' => ∃ A' c' M m, e = .returned (.slice A' M.length c') ∧ SameE (listE L m (min z.toNat (L.length - m))) M ∧ RowE w' w.heap.size (.slice A' M.length c') M ∧
      m ≤ L.length ∧ (∀ k, k < m → idxE L k ≤ N) ∧ (∀ k, m ≤ k → k < L.length → N < idxE L k) ∧ Below w.heap.size w w' ∧ (∀ e ∈ M, LabNew w.heap.size e) := by
  have HU : Hid (∀ W, Below w.heap.size w W → _) := fun W hW => upTo_any (N := N) W (h.below hW) hrise
  obtain ⟨v, k1, r1⟩ := h.sp
  obtain ⟨A, c, rfl⟩ := own_slice r1.own
  have c37 := k1.c37
  have HH := Lib.hid h
  have HC37 : Hid (∀ W, Below w.heap.size w W → W.cell? ⟨s, 37, none⟩ = some (.slice A L.length c)) := fun W hW => (hW.cell (p := ⟨s, 37, none⟩) k1.slt).trans k1.c37
  have HOWN := Lib.hid r1.own
  have hfew := h.few
  obtain ⟨n, hn⟩ : ∃ n, n = L.length := ⟨_, rfl⟩
  rw [← hn] at HC37 HOWN HU hfew ⊢
  have HN := Lib.hid hn
  clear k1 r1 h hrise c37 hn
  go_enter Try.func23, Try.ntmps23
  go_upto_region 3 with fail
  refine wp_region_noPanic ?_
  refine wp_region_held_drew (S := fun W => Below w.heap.size w W) (by kernel_rfl) ?_ (fun hHeld => ?_)
  · exact (RowKit.Below.refl _ _).drew
  refine heldTake (i := 0) (v := ?_) rfl (by kernel_rfl) (by kernel_rfl) (by kernel_rfl) (fun _ _ _ h => h) (Or.inl ⟨by rfl, ?_⟩) (by assumption) ?_
  rotate_left
  · (intro W hSw; (try dsimp only at hSw); have f2 := HC37.out W hSw; go_simp; try with_reducible rfl)
  try simp only [heldPut, List.set]
  refine heldTake (i := 1) (v := ?_) rfl (by kernel_rfl) (by kernel_rfl) (by kernel_rfl) (fun _ _ _ h => h) (Or.inl ⟨by rfl, ?_⟩) (by assumption) ?_
  rotate_left
  · (intro W hSw; (try dsimp only at hSw); have f2 := HC37.out W hSw; go_simp; try with_reducible rfl)
  try simp only [heldPut, List.set]
  refine heldTake (i := 2) (v := ?_) rfl (by kernel_rfl) (by kernel_rfl) (by kernel_rfl) (fun _ _ _ h => h) (Or.inl ⟨by rfl, ?_⟩) (by assumption) ?_
  rotate_left
  · (intro W hSw; (try dsimp only at hSw); have f2 := HC37.out W hSw; go_simp; try with_reducible rfl)
  try simp only [heldPut, List.set]
  refine heldTake (i := 3) (v := ?_) rfl (by kernel_rfl) (by kernel_rfl) (by kernel_rfl) (fun _ _ _ h => h) (Or.inl ⟨by rfl, ?_⟩) (by assumption) ?_
  rotate_left
  · (intro W hSw; (try dsimp only at hSw); have f2 := HC37.out W hSw; go_simp; try with_reducible rfl)
  try simp only [heldPut, List.set]
  refine heldTake (i := 4) (v := ?_) rfl (by kernel_rfl) (by kernel_rfl) (by kernel_rfl) (fun _ _ _ h => h) (Or.inl ⟨by rfl, ?_⟩) (by assumption) ?_
  rotate_left
  · (intro W hSw; (try dsimp only at hSw); have f2 := HC37.out W hSw; go_simp; try with_reducible rfl)
  try simp only [heldPut, List.set]
  refine heldTake (i := 5) (v := ?_) rfl (by kernel_rfl) (by kernel_rfl) (by kernel_rfl) (fun _ _ _ h => h) (Or.inl ⟨by rfl, ?_⟩) (by assumption) ?_
  rotate_left
  · (intro W hSw; (try dsimp only at hSw); have f2 := HC37.out W hSw; go_simp; try with_reducible rfl)
  try simp only [heldPut, List.set]
  refine heldTake (i := 6) (v := ?_) rfl (by kernel_rfl) (by kernel_rfl) (by kernel_rfl) (fun _ _ _ h => h) (Or.inl ⟨by rfl, ?_⟩) (by assumption) ?_
  rotate_left
  · (intro W hSw; (try dsimp only at hSw); have f2 := HC37.out W hSw; go_simp; try with_reducible rfl)
  try simp only [heldPut, List.set]
  refine heldOne (i := 7) rfl (by kernel_rfl) (fun K hK => ?_)
  go_simp
  refine (HU.out _ hHeld).mono ?_
  rintro e' w1 ⟨m, rfl, hm, hlo, hhi, hb1⟩
  have HB1 : Hid (Below w.heap.size w w1) := hHeld.trans (hb1.mono hHeld.size)
  have HLO := Lib.hid hlo
  have HHI := Lib.hid hhi
  have e3 := slO_l A n c m hm
  have HE3 := Lib.hid e3
  clear hb1 hlo hhi e3
  go_wp2_with fail
  refine hK.out _ _ HB1.out (fun hHeld2 => ?_)
  clear hK K
  try simp only [heldPut, List.set]
  refine heldTake (i := 8) (v := ?_) rfl (by kernel_rfl) (by kernel_rfl) (by kernel_rfl) (fun _ _ _ h => h) (Or.inl ⟨by rfl, ?_⟩) (by assumption) ?_
  rotate_left
  · (intro W hSw; (try dsimp only at hSw); have f3 := HE3.out W; go_simp; try with_reducible rfl)
  try simp only [heldPut, List.set]
  refine heldTake (i := 9) (v := ?_) rfl (by kernel_rfl) (by kernel_rfl) (by kernel_rfl) (fun _ _ _ h => h) (Or.inl ⟨by rfl, ?_⟩) (by assumption) ?_
  rotate_left
  · (intro W hSw; (try dsimp only at hSw);  go_simp; try with_reducible rfl)
  try simp only [heldPut, List.set]
  refine wpAnyH_done (by kernel_rfl) ?_ _
  refine NoPanic.normal ?_
  obtain ⟨k, hk⟩ : ∃ k, k = min z.toNat (n - m) := ⟨_, rfl⟩
  have hkn : k ≤ n - m := by omega
  have hcap := (own_capE HOWN.out).1
  have e4 := slE_h (subO A c m) (n - m) (c - m) k (by omega)
  have HE4 := Lib.hid e4
  have HKK := Lib.hid hk
  obtain ⟨t, ht⟩ : ∃ t, t = z.toNat := ⟨_, rfl⟩
  have hmx : max z 0 = (t : Int) := by omega
  have hmn : min (t : Int) ((n : Int) - (m : Int)) = (k : Int) := by omega
  have hmn2 : min (t : Int) ((n - m : Nat) : Int) = (k : Int) := by omega
  have f4 := e4
  clear hk ht e4 hHeld hHeld2
  go_wp2_with fail
  have hlen : k = (listE L m k).length := by unfold listE; rw [List.length_take, List.length_drop, ← HN.out]; omega
  have hsrc := srcO_cut HN.out (ownB_below HOWN.out HB1.out) hm hkn
  have hok : OkE w1 (listE L m k) := fun e he => ((HH.out.ent e (List.mem_of_mem_drop (List.mem_of_mem_take he))).free).below HB1.out
  refine (clones_new (subO A c m) k (c - m) (listE L m k) w1 hlen (by omega) hsrc.2 (fun W hW => (srcO_cut HN.out (ownB_below (ownB_below HOWN.out HB1.out) hW) hm hkn).1) hok).mono ?_
  rintro _ w2 ⟨A2, c2, M, rfl, hsm, hrow, hb2, hnw⟩
  have HNW : Hid (∀ e ∈ M, LabNew w.heap.size e) := fun e he a ha h0 => Nat.le_trans HB1.out.size (hnw e he a ha h0)
  clear hnw
  have hml : M.length = k := by rw [← hsm.len]; exact hlen.symm
  have HSM := Lib.hid hsm
  have HRW := Lib.hid hrow
  have HML := Lib.hid hml
  have HB2 := Lib.hid (HB1.out.trans (hb2.mono HB1.out.size))
  have hz12 := HB1.out.size
  clear hlen hsrc hok hsm hrow hml hb2 f4 hmx hmn hmn2
  go_wp2
  go_ret
  refine ⟨A2, c2, M, m, by rw [HML.out]; rfl, by rw [← HKK.out]; exact HSM.out, ⟨by rw [HML.out]; have h := ownB_mono HRW.out.own hz12; rw [HML.out] at h; exact h, by rw [HML.out]; exact HRW.out.ok⟩, hm, HLO.out, HHI.out, HB2.out, HNW.out⟩
end Go.Proofs.Ytgcfofnlgdfmoaa
