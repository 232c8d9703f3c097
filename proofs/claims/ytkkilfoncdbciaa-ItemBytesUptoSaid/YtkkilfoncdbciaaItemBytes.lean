/- The walk of watchfirelaw04.ItemBytes. -/
import Derived.Test.YtkkilfoncdbciaaItBy
import Derived.Test.YtkkilfoncdbciaaHeld
namespace Go.Proofs.Ytkkilfoncdbciaa.itemBytes
open Go.RowKit Go.Proofs.Ytkkilfoncdbciaa

theorem conv_own2 {w : World} {base n : Nat} {v : Value} {l : List Nat} (h : w.ownsRow base 5 1 v n (cellsB l)) (hn : n = l.length) :
    (convert 41 9 v).run Try.prog w = .ok (.string (strB l)) w := by
  subst hn
  obtain ⟨A, c, rfl⟩ := own_slice1 h
  exact conv_any (RdB.of_own h) rfl (fun hA => own_nil1 h hA)
theorem rangeS {w : World} {b : Nat} {s : Sm} {t : TypeId} {fr : Nat × Nat} (hb : w.heap[b]? = some (.cells #[.bool s.g, .int .u8 s.o, .int .u8 s.p, .int .u8 s.w, .int .u16 s.q, .int .u16 s.m, .int .u16 s.t, .int .u8 s.r, .int .u8 s.l, .int .u8 s.v, .bool s.s] t fr)) : w.rangeAt b 0 (smC s) := fun j v hv => by
  rw [cell_of_row w b (0 + j) _ t fr hb, Nat.zero_add]
  rw [show #[Value.bool s.g, .int .u8 s.o, .int .u8 s.p, .int .u8 s.w, .int .u16 s.q, .int .u16 s.m, .int .u16 s.t, .int .u8 s.r, .int .u8 s.l, .int .u8 s.v, .bool s.s] = (smC s).toArray from rfl, List.getElem?_toArray]
  exact hv
theorem wpList_at {P : Program} {ops : Array Oper} {rest : List Oper} {op : Oper} {a : Act} {w : World} {Q : Exit → Act → World → Prop} (h : wpList P ops Q (op :: rest) a w) : wpList P ops Q (op :: rest) a w := h
theorem wpList_load_wanted {P : Program} {ops : Array Oper} {rest : List Oper} {op : Oper} {a : Act} {w : World} {Q : Exit → Act → World → Prop} (hw : Region.wanted op (yielded ops a.tmps) = true) (ty : TypeId) (x : Operand) (ho : op.op = .load ty x)
    (b o : Nat) (hx : a.eval x = .pointer (some ⟨b, o, none⟩)) (cs : List Value) (d : TypeDesc) (hc : w.rangeAt b o cs)
    (hu : P.underlying ty = some d) (hd : d.isRow = true) (hi : (P.info? ty).map (·.size) = some cs.length)
    (h : wpList P ops Q rest (a.put op.dst (.agg cs.toArray)) w) : wpList P ops Q (op :: rest) a w :=
  BigFrame.wpList_want hw fun _ hK => wp_load_mid ty x ho b o hx cs d hc hu hd hi (hK _ _ h)
theorem strB_self (l : List Nat) : ((strB l).toList == (strB l).toList) = true := beq_self_eq_true _

set_option maxRecDepth 100000 in
set_option maxHeartbeats 8000000 in
theorem walk (x : It) (A : Option Addr) (n c : Nat) (hx : OkI x) (hn : n = x.l.length) (hS : ShortI x) (hL : n ≤ 20 → (itemB x).length ≤ 1999000) (s : Sm) (hs : OkS s)
    (B : Option Addr) (nb cb : Nat) (bl : List Nat) (hnb : nb = bl.length) (hB : B = none → nb = 0) (hokb : OkB bl) (w : World) (hr : RdP w w.heap.size A x.l) (hrb : RdB w w.heap.size B bl) :
    Calls Try.prog 4 #[.agg #[.bool x.g, .int .u8 x.o, .int .u64 x.q, .int .u64 x.t, .string x.r, .slice A n c, .int .u8 x.s, .int .u8 x.p, .int .i64 x.v, .int .u8 x.w, .int .u8 x.ga, .int .u64 x.gf, .int .u64 x.gt], .agg #[.bool s.g, .int .u8 s.o, .int .u8 s.p, .int .u8 s.w, .int .u16 s.q, .int .u16 s.m, .int .u16 s.t, .int .u8 s.r, .int .u8 s.l, .int .u8 s.v, .bool s.s], .slice B nb cb] w fun e w' => e = .returned (.bool true) ∧ Below w.heap.size w w' := by
  obtain ⟨W, hW⟩ : ∃ W, W = (w.alloc (.cells #[.bool x.g, .int .u8 x.o, .int .u64 x.q, .int .u64 x.t, .string x.r, .slice A n c, .int .u8 x.s, .int .u8 x.p, .int .i64 x.v, .int .u8 x.w, .int .u8 x.ga, .int .u64 x.gf, .int .u64 x.gt] 30)).alloc (.cells #[.bool s.g, .int .u8 s.o, .int .u8 s.p, .int .u8 s.w, .int .u16 s.q, .int .u16 s.m, .int .u16 s.t, .int .u8 s.r, .int .u8 s.l, .int .u8 s.v, .bool s.s] 33) := ⟨_, rfl⟩
  have hba : Below w.heap.size w W := by rw [hW]; exact ((Below.refl _ _).alloc (Nat.le_refl _) _).alloc (by simp) _
  have hz : W.heap.size = w.heap.size + 2 := by rw [hW]; simp
  have k0 : W.heap[w.heap.size]? = some (.cells #[.bool x.g, .int .u8 x.o, .int .u64 x.q, .int .u64 x.t, .string x.r, .slice A n c, .int .u8 x.s, .int .u8 x.p, .int .i64 x.v, .int .u8 x.w, .int .u8 x.ga, .int .u64 x.gf, .int .u64 x.gt] 30 (0, 0)) := by rw [hW]; exact heap_alloc2_old _ _ _
  have k1 : W.heap[w.heap.size + 1]? = some (.cells #[.bool s.g, .int .u8 s.o, .int .u8 s.p, .int .u8 s.w, .int .u16 s.q, .int .u16 s.m, .int .u16 s.t, .int .u8 s.r, .int .u8 s.l, .int .u8 s.v, .bool s.s] 33 (0, 0)) := by rw [hW]; exact heap_alloc2_new _ _ _
  have HW := Lib.hid hW
  have HZ := Lib.hid hz
  have K0 := Lib.hid k0
  have K1 := Lib.hid k1
  have HBa := Lib.hid hba
  have HX := Lib.hid hx
  have HN := Lib.hid hn
  have HS := Lib.hid hS
  have HL := Lib.hid hL
  have HSs := Lib.hid hs
  have HNB := Lib.hid hnb
  have HQB := Lib.hid hB
  have HOB := Lib.hid hokb
  have HR := Lib.hid hr
  have HRB := Lib.hid hrb
  clear hW hz k0 k1 hba hx hn hS hL hs hnb hB hokb hr hrb
  go_enter Try.func4, Try.ntmps4
  go_upto_region 1 with fail
  rw [← HW.out]
  generalize (.agg #[.bool x.g, .int .u8 x.o, .int .u64 x.q, .int .u64 x.t, .string x.r, .slice A n c, .int .u8 x.s, .int .u8 x.p, .int .i64 x.v, .int .u8 x.w, .int .u8 x.ga, .int .u64 x.gf, .int .u64 x.gt] : Value) = va
  generalize (.agg #[.bool s.g, .int .u8 s.o, .int .u8 s.p, .int .u8 s.w, .int .u16 s.q, .int .u16 s.m, .int .u16 s.t, .int .u8 s.r, .int .u8 s.l, .int .u8 s.v, .bool s.s] : Value) = vs
  go_wp2_with fail
  refine (iawake_any W).mono ?_
  rintro e w1 ⟨rfl, hb1⟩
  have hz := HZ.out
  have HX1 := Lib.hid (show ∀ V, Below w1.heap.size w1 V → V.heap[w.heap.size]? = some (.cells #[.bool x.g, .int .u8 x.o, .int .u64 x.q, .int .u64 x.t, .string x.r, .slice A n c, .int .u8 x.s, .int .u8 x.p, .int .i64 x.v, .int .u8 x.w, .int .u8 x.ga, .int .u64 x.gf, .int .u64 x.gt] 30 (0, 0)) from fun V hV => (hV.block _ (by have := hb1.size; omega)).trans ((hb1.block _ (by omega)).trans K0.out))
  have HX2 := Lib.hid (show ∀ V, Below w1.heap.size w1 V → V.heap[w.heap.size + 1]? = some (.cells #[.bool s.g, .int .u8 s.o, .int .u8 s.p, .int .u8 s.w, .int .u16 s.q, .int .u16 s.m, .int .u16 s.t, .int .u8 s.r, .int .u8 s.l, .int .u8 s.v, .bool s.s] 33 (0, 0)) from fun V hV => (hV.block _ (by have := hb1.size; omega)).trans ((hb1.block _ (by omega)).trans K1.out))
  have HB1 := Lib.hid (HBa.out.trans (hb1.mono HBa.out.size))
  have HRX := Lib.hid (show ∀ V, Below w1.heap.size w1 V → RdP V V.heap.size A x.l from fun V hV => (HR.out.below (HB1.out.trans (hV.mono HB1.out.size))).more (by have := HB1.out.size; have := hV.size; omega))
  have c5 : w1.cell? ⟨w.heap.size, 5, none⟩ = some (.slice A n c) := cell_of_row _ _ 5 _ _ _ (HX1.out w1 (Below.refl _ _))
  clear hb1 hz HZ K0 K1 HBa HW HR
  by_cases h20 : 20 < n
  · have d1 : decide ((20 : Int) < (n : Int)) = true := decide_eq_true (by omega)
    have d2 : decide (20 < n) = true := decide_eq_true h20
    clear h20
    go_wp2_with fail
    go_ret
    exact ⟨rfl, HB1.out⟩
  have d1 : decide ((20 : Int) < (n : Int)) = false := decide_eq_false (by omega)
  have d2 : decide (20 < n) = false := decide_eq_false h20
  by_cases h300 : 300 < nb
  · have d3 : decide ((300 : Int) < (nb : Int)) = true := decide_eq_true (by omega)
    have d4 : decide (300 < nb) = true := decide_eq_true h300
    clear h20 h300
    go_wp2_with fail
    go_ret
    exact ⟨rfl, HB1.out⟩
  have d3 : decide ((300 : Int) < (nb : Int)) = false := decide_eq_false (by omega)
  have d4 : decide (300 < nb) = false := decide_eq_false h300
  have H20 := Lib.hid h20
  have H300 := Lib.hid h300
  clear h20 h300
  go_upto_region 5 with fail
  clear d1 d2 d3 d4 c5
  have HEnc := Lib.hid (show ∀ V, Below w1.heap.size w1 V → Calls Try.prog 14 #[.agg #[.bool x.g, .int .u8 x.o, .int .u64 x.q, .int .u64 x.t, .string x.r, .slice A n c, .int .u8 x.s, .int .u8 x.p, .int .i64 x.v, .int .u8 x.w, .int .u8 x.ga, .int .u64 x.gf, .int .u64 x.gt]] V fun e w' => ∃ v', e = .returned v' ∧ w'.ownsRow V.heap.size 5 1 v' (itemB x).length (cellsB (itemB x)) ∧ Below V.heap.size V w' from fun V hV => encode_any x A n c HX.out HS.out HN.out (by have := H20.out; omega) V (HL.out (by have := H20.out; omega)) (HRX.out V hV))
  have HRby := Lib.hid (show ∀ V, Below w1.heap.size w1 V → Calls Try.prog 15 #[.agg #[.bool x.g, .int .u8 x.o, .int .u64 x.q, .int .u64 x.t, .string x.r, .slice A n c, .int .u8 x.s, .int .u8 x.p, .int .i64 x.v, .int .u8 x.w, .int .u8 x.ga, .int .u64 x.gf, .int .u64 x.gt]] V fun e w' => ∃ v', e = .returned v' ∧ w'.ownsRow V.heap.size 5 1 v' (itemB x).length (cellsB (itemB x)) ∧ Below V.heap.size V w' from fun V hV => refBytes_any x A n c HX.out HS.out HN.out (by have := H20.out; omega) V (HL.out (by have := H20.out; omega)) (HRX.out V hV))
  have HSz := Lib.hid (show ∀ V, Below w1.heap.size w1 V → Calls Try.prog 16 #[.agg #[.bool x.g, .int .u8 x.o, .int .u64 x.q, .int .u64 x.t, .string x.r, .slice A n c, .int .u8 x.s, .int .u8 x.p, .int .i64 x.v, .int .u8 x.w, .int .u8 x.ga, .int .u64 x.gf, .int .u64 x.gt]] V fun e w' => e = .returned (.int .i64 ((itemB x).length : Nat)) ∧ Below V.heap.size V w' from fun V hV => size_any x A n c HX.out HS.out HN.out (by have := H20.out; omega) V (HL.out (by have := H20.out; omega)) (HRX.out V hV))
  have hsb := strB_self (itemB x)
  go_cut [40] from 26 to 40 (fun p wx => p = .bool false ∧ Below w1.heap.size w1 wx)
  case first =>
    refine wp_region_noPanic ?_
    refine wp_region_held_drew (S := (fun V => Below w1.heap.size w1 V)) (by kernel_rfl) ?_ (fun hHeld => ?_)
    · exact (Below.refl _ _).drew
    refine heldTake (i := 0) (v := .agg (listX x A n c).toArray) rfl (by kernel_rfl) (by kernel_rfl) (by kernel_rfl) (fun _ _ _ h => h) (yieldsIf_load_mid (by rfl) _ _ rfl w.heap.size 0 rfl (listX x A n c) _ (fun V hV => rangeX (HX1.out V hV)) Try.underlying30 rfl (by kernel_rfl)) (by assumption) ?_
    try simp only [heldPut, List.set]
    refine heldTake (i := 3) (v := .agg (listX x A n c).toArray) rfl (by kernel_rfl) (by kernel_rfl) (by kernel_rfl) (fun _ _ _ h => h) (yieldsIf_load_mid (by rfl) _ _ rfl w.heap.size 0 rfl (listX x A n c) _ (fun V hV => rangeX (HX1.out V hV)) Try.underlying30 rfl (by kernel_rfl)) (by assumption) ?_
    try simp only [heldPut, List.set]
    refine heldOne (i := 1) rfl (by kernel_rfl) (fun K hK => ?_)
    go_simp
    refine (HEnc.out _ hHeld).mono ?_
    rintro e V1 ⟨v1, rfl, ho1, hb⟩
    have HO1 := Lib.hid ho1
    have HB2 := Lib.hid (hHeld.trans (hb.mono hHeld.size))
    clear ho1 hb
    go_wp2_with fail
    refine hK.out _ _ ?_ (fun hHeld1 => ?_)
    · exact HB2.out
    clear hK K
    try simp only [heldPut, List.set]
    refine heldMore (S2 := fun V => Below w1.heap.size w1 V ∧ Below V1.heap.size V1 V) (fun _ h => h.1) ?_
    have hH1 : Below w1.heap.size w1 V1 ∧ Below V1.heap.size V1 V1 := ⟨HB2.out, Below.refl _ _⟩
    clear hHeld hHeld1
    refine heldTake (i := 2) (v := ?_) rfl (by kernel_rfl) (by kernel_rfl) (by kernel_rfl) (fun _ _ _ h => h) (Or.inl ⟨by rfl, ?_⟩) (by assumption) ?_
    rotate_left
    · (intro w hSw; have k := conv_own2 (own_below HO1.out hSw.2) rfl; clear hSw; (try dsimp only at k); go_simp; try with_reducible rfl)
    try simp only [heldPut, List.set]
    refine heldOne (i := 4) rfl (by kernel_rfl) (fun K hK => ?_)
    go_simp
    refine (HRby.out _ hH1.1).mono ?_
    rintro e V2 ⟨v2, rfl, ho2, hb⟩
    have HO2 := Lib.hid ho2
    have HB3 := Lib.hid hb
    clear ho2 hb
    go_wp2_with fail
    refine hK.out _ _ ?_ (fun hHeld2 => ?_)
    · exact ⟨hH1.1.trans (HB3.out.mono hH1.1.size), hH1.2.trans (HB3.out.mono hH1.2.size)⟩
    clear hK K
    try simp only [heldPut, List.set]
    refine heldMore (S2 := fun V => Below w1.heap.size w1 V ∧ Below V2.heap.size V2 V) (fun _ h => ⟨h.1, HB3.out.trans (h.2.mono HB3.out.size)⟩) ?_
    have hH2 : Below w1.heap.size w1 V2 ∧ Below V2.heap.size V2 V2 := ⟨hHeld2.1, Below.refl _ _⟩
    clear hHeld2 hH1 HO1 HB2
    refine heldTake (i := 5) (v := ?_) rfl (by kernel_rfl) (by kernel_rfl) (by kernel_rfl) (fun _ _ _ h => h) (Or.inl ⟨by rfl, ?_⟩) (by assumption) ?_
    rotate_left
    · (intro w hSw; have k := conv_own2 (own_below HO2.out hSw.2) rfl; clear hSw; (try dsimp only at k); go_simp; try with_reducible rfl)
    try simp only [heldPut, List.set]
    refine heldTake (i := 6) (v := ?_) rfl (by kernel_rfl) (by kernel_rfl) (by kernel_rfl) (fun _ _ _ h => h) (Or.inl ⟨by rfl, ?_⟩) (by assumption) ?_
    rotate_left
    · (intro w hSw; (try dsimp only at hSw); go_simp; try with_reducible rfl)
    try simp only [heldPut, List.set]
    refine heldTake (i := 7) (v := ?_) rfl (by kernel_rfl) (by kernel_rfl) (by kernel_rfl) (fun _ _ _ h => h) (Or.inl ⟨by rfl, ?_⟩) (by assumption) ?_
    rotate_left
    · (intro w hSw; (try dsimp only at hSw); go_simp; try with_reducible rfl)
    try simp only [heldPut, List.set]
    refine heldTake (i := 8) (v := .agg (listX x A n c).toArray) rfl (by kernel_rfl) (by kernel_rfl) (by kernel_rfl) (fun _ _ _ h => h) (yieldsIf_load_mid (by rfl) _ _ rfl w.heap.size 0 rfl (listX x A n c) _ (fun V hV => rangeX (HX1.out V hV.1)) Try.underlying30 rfl (by kernel_rfl)) (by assumption) ?_
    try simp only [heldPut, List.set]
    refine heldTake (i := 10) (v := .agg (listX x A n c).toArray) rfl (by kernel_rfl) (by kernel_rfl) (by kernel_rfl) (fun _ _ _ h => h) (yieldsIf_load_mid (by rfl) _ _ rfl w.heap.size 0 rfl (listX x A n c) _ (fun V hV => rangeX (HX1.out V hV.1)) Try.underlying30 rfl (by kernel_rfl)) (by assumption) ?_
    try simp only [heldPut, List.set]
    refine heldOne (i := 9) rfl (by kernel_rfl) (fun K hK => ?_)
    go_simp
    refine (HSz.out _ hH2.1).mono ?_
    rintro e V3 ⟨rfl, hb⟩
    have HB4 := Lib.hid hb
    clear hb
    go_wp2_with fail
    refine hK.out _ _ ?_ (fun hH3 => ?_)
    · exact ⟨hH2.1.trans (HB4.out.mono hH2.1.size), hH2.2.trans (HB4.out.mono hH2.2.size)⟩
    clear hK K
    try simp only [heldPut, List.set]
    refine heldOne (i := 11) rfl (by kernel_rfl) (fun K hK => ?_)
    go_simp
    refine (HRby.out _ hH3.1).mono ?_
    rintro e V4 ⟨v4, rfl, ho4, hb⟩
    have HB5 := Lib.hid hb
    obtain ⟨A9, c9, rfl⟩ := own_slice1 ho4
    clear ho4 hb
    go_wp2_with fail
    refine hK.out _ _ ?_ (fun hH4 => ?_)
    · exact ⟨hH3.1.trans (HB5.out.mono hH3.1.size), hH3.2.trans (HB5.out.mono hH3.2.size)⟩
    clear hK K
    try simp only [heldPut, List.set]
    refine heldTake (i := 12) (v := ?_) rfl (by kernel_rfl) (by kernel_rfl) (by kernel_rfl) (fun _ _ _ h => h) (Or.inl ⟨by rfl, ?_⟩) (by assumption) ?_
    rotate_left
    · (intro w hSw; (try dsimp only at hSw); go_simp; try with_reducible rfl)
    try simp only [heldPut, List.set]
    refine heldTake (i := 13) (v := ?_) rfl (by kernel_rfl) (by kernel_rfl) (by kernel_rfl) (fun _ _ _ h => h) (Or.inl ⟨by rfl, ?_⟩) (by assumption) ?_
    rotate_left
    · (intro w hSw; (try dsimp only at hSw); go_simp; try with_reducible rfl)
    try simp only [heldPut, List.set]
    refine heldTake (i := 14) (v := ?_) rfl (by kernel_rfl) (by kernel_rfl) (by kernel_rfl) (fun _ _ _ h => h) (Or.inl ⟨by rfl, ?_⟩) (by assumption) ?_
    rotate_left
    · (intro w hSw; (try dsimp only at hSw); go_simp; try with_reducible rfl)
    try simp only [heldPut, List.set]
    refine wpAnyH_done (by kernel_rfl) ?_ _
    refine NoPanic.normal ?_
    go_wp2_with fail
    go_meet
    exact ⟨by first | rfl | simp, hH4.1⟩
  case rest =>
    obtain ⟨rfl, hb2⟩ := hcut
    have HB2 := Lib.hid hb2
    clear hb2 HSz HRby HEnc hsb
    go_wp2_with fail
    go_upto_region 7 with fail
    obtain ⟨x2, hx2⟩ : ∃ y, smallI s = y := ⟨_, rfl⟩
    have HI := Lib.hid (show ∀ V, Calls Try.prog 11 #[.agg #[.bool s.g, .int .u8 s.o, .int .u8 s.p, .int .u8 s.w, .int .u16 s.q, .int .u16 s.m, .int .u16 s.t, .int .u8 s.r, .int .u8 s.l, .int .u8 s.v, .bool s.s]] V (ItRet x2 V) from fun V => smallItem_as hx2 HSs.out V)
    have HX3 : Hid (OkI x2 ∧ ShortI x2 ∧ (itemB x2).length ≤ 300 ∧ x2.l.length ≤ 3) := by show _ ∧ _; rw [← hx2]; exact ⟨smallI_ok s HSs.out, smallI_short s, smallI_len s HSs.out, smallI_labs s⟩
    clear hx2
    obtain ⟨w2, rfl⟩ : ∃ V, V = wc := ⟨_, rfl⟩
    go_cut [44, 45, 46] from 41 to 46 (fun p q r wx => ∃ P, p = .slice (some ⟨P, 0, none⟩) 2 2 ∧ q = .int .i64 2 ∧ r = .int .i64 0 ∧ Below w.heap.size w wx ∧ Below w1.heap.size w1 wx ∧ ∀ k : Nat, k < 2 → ∃ (u : It) (U : Option Addr) (nu cu : Nat), ElOk wx P (k * 13) u U nu cu)
    case first =>
      refine wp_region_noPanic ?_
      refine wp_region_held_drew (S := (fun V => Below w1.heap.size w1 V)) (by kernel_rfl) ?_ (fun hHeld => ?_)
      · exact HB2.out.trans (((Below.refl _ _).drew).mono HB2.out.size)
      refine heldTake (i := 0) (v := .agg (smC s).toArray) rfl (by kernel_rfl) (by kernel_rfl) (by kernel_rfl) (fun _ _ _ h => h) (yieldsIf_load_mid (by rfl) _ _ rfl (w.heap.size + 1) 0 rfl (smC s) _ (fun V hV => rangeS (HX2.out V hV)) Try.underlying33 rfl Try.infoS) (by assumption) ?_
      try simp only [heldPut, List.set]
      refine heldTake (i := 2) (v := .agg #[.bool x.g, .int .u8 x.o, .int .u64 x.q, .int .u64 x.t, .string x.r, .slice A n c, .int .u8 x.s, .int .u8 x.p, .int .i64 x.v, .int .u8 x.w, .int .u8 x.ga, .int .u64 x.gf, .int .u64 x.gt]) rfl (by kernel_rfl) (by kernel_rfl) (by kernel_rfl) (fun _ _ _ h => h) (yieldsIf_load_mid (by rfl) _ _ rfl w.heap.size 0 rfl (listX x A n c) _ (fun V hV => rangeX (HX1.out V hV)) Try.underlying30 rfl (by kernel_rfl)) (by assumption) ?_
      try simp only [heldPut, List.set]
      refine heldTake (i := 5) (v := ?_) rfl (by kernel_rfl) (by kernel_rfl) (by kernel_rfl) (fun _ _ _ h => h) (Or.inl ⟨by rfl, ?_⟩) (by assumption) ?_
      rotate_left
      · (intro w hSw; (try dsimp only at hSw); go_simp; try with_reducible rfl)
      try simp only [heldPut, List.set]
      refine heldOne (i := 1) rfl (by kernel_rfl) (fun K hK => ?_)
      go_simp
      refine (HI.out _).mono ?_
      rintro e V1 ⟨A2, n2, c2, rfl, hn2, ho2, hb⟩
      have HO2 := Lib.hid ho2
      have HN2 := Lib.hid hn2
      have HB3 := Lib.hid (hHeld.trans (hb.mono hHeld.size))
      clear ho2 hn2 hb
      go_wp2_with fail
      refine hK.out _ _ ?_ (fun hHeld1 => ?_)
      · exact HB3.out
      clear hK K
      try simp only [heldPut, List.set]
      refine heldOne (i := 3) rfl (by kernel_rfl) (fun K hK => ?_)
      go_simp
      refine hK.out _ _ ?_ (fun hHeld2 => ?_)
      · exact HB3.out.alloc HB3.out.size _
      clear hK K
      try simp only [heldPut, List.set]
      have hX := heap_alloc_new V1 (.cells (listX x2 A2 n2 c2 ++ listX x A n c).toArray 30)
      have hb4 : Below V1.heap.size V1 (V1.alloc (.cells (listX x2 A2 n2 c2 ++ listX x A n c).toArray 30)) := (Below.refl _ _).alloc (Nat.le_refl _) _
      have hlt : V1.heap.size < (V1.alloc (.cells (listX x2 A2 n2 c2 ++ listX x A n c).toArray 30)).heap.size := by simp
      obtain ⟨V2, hV2⟩ : ∃ V, V = V1.alloc (.cells (listX x2 A2 n2 c2 ++ listX x A n c).toArray 30) := ⟨_, rfl⟩
      rw [← hV2] at hX hb4 hlt
      have hV3 : V1.alloc (.cells #[.bool x2.g, .int .u8 x2.o, .int .u64 x2.q, .int .u64 x2.t, .string x2.r, .slice A2 n2 c2, .int .u8 x2.s, .int .u8 x2.p, .int .i64 x2.v, .int .u8 x2.w, .int .u8 x2.ga, .int .u64 x2.gf, .int .u64 x2.gt, .bool x.g, .int .u8 x.o, .int .u64 x.q, .int .u64 x.t, .string x.r, .slice A n c, .int .u8 x.s, .int .u8 x.p, .int .i64 x.v, .int .u8 x.w, .int .u8 x.ga, .int .u64 x.gf, .int .u64 x.gt] 30) = V2 := hV2.symm
      rw [hV3] at hHeld2 ⊢
      clear hV2 hV3
      refine heldTake (i := 4) (v := ?_) rfl (by kernel_rfl) (by kernel_rfl) (by kernel_rfl) (fun _ _ _ h => h) (Or.inl ⟨by rfl, ?_⟩) (by assumption) ?_
      rotate_left
      · (intro w hSw; (try dsimp only at hSw); go_simp; try with_reducible rfl)
      try simp only [heldPut, List.set]
      refine wpAnyH_done (by kernel_rfl) ?_ _
      refine NoPanic.normal ?_
      go_wp2_with fail
      go_meet
      refine ⟨V1.heap.size, rfl, rfl, rfl, HB1.out.trans (hHeld2.mono HB1.out.size), hHeld2, fun k hk => ?_⟩
      obtain ⟨u, U, nu, cu, hor, hrg⟩ := rangeX2 hX hk
      have hrg2 : ∀ V, Below V2.heap.size V2 V → V.rangeAt V1.heap.size (k * 13) (listX u U nu cu) := fun V hV => range_keep hrg (hV.block _ hlt)
      rcases hor with ⟨rfl, rfl, rfl, rfl, rfl⟩ | ⟨rfl, rfl, rfl, rfl, rfl⟩
      · exact ⟨_, _, _, _, HX3.out.1, HX3.out.2.1, HN2.out, by have := HN2.out; have := HX3.out.2.2.2; omega, by have := HX3.out.2.2.1; omega, hrg2, fun V hV => RdP.of_own (own_below (own_below HO2.out hb4) hV)⟩
      · exact ⟨_, _, _, _, HX.out, HS.out, HN.out, by have := H20.out; omega, (HL.out (by have := H20.out; omega)), hrg2, fun V hV => HRX.out V (hHeld2.trans (hV.mono hHeld2.size))⟩
    case rest =>
      obtain ⟨P, rfl, rfl, rfl, hb3, _, hel⟩ := hcut
      obtain ⟨w3, rfl⟩ : ∃ V, V = wc := ⟨_, rfl⟩
      have HB3 := Lib.hid hb3
      have HEl := Lib.hid hel
      clear hb3 hel HX1 HX2 HRX HB1 HB2 HI HX3 HSs HX HN HS HL
      go_wp2_with fail
      go_loopw [46] (fun iv wr => ∃ k : Nat, k ≤ 2 ∧ iv = .int .i64 k ∧ Hid (Below w3.heap.size w3 wr)) (fun iv _ => 2 - (intOf iv).toNat)
      case atStart => exact ⟨0, by omega, rfl, Below.refl _ _⟩
      case round =>
        obtain ⟨k, hk, rfl, HBr⟩ := hrel
        by_cases hk2 : k < 2
        · have q1 : decide ((k : Int) < 2) = true := decide_eq_true (by omega)
          have q2 : decide (k < 2) = true := decide_eq_true hk2
          obtain ⟨u, U, nu, cu, he⟩ := HEl.out k hk2
          have HE := Lib.hid he
          have hrg := he.rg wr HBr.out
          clear he
          go_upto_region 10 with (first
            | (refine wpList_load_mid rfl _ _ rfl P (k * 13) rfl (listX u U nu cu) _ hrg Try.underlying30 rfl (by kernel_rfl) ?_)
            | (refine wpList_store_row rfl _ _ _ rfl wr.heap.size _ rfl rfl _ _ (heap_alloc_new _ _) Try.infoI rfl (by simp [Value.oneCell', listX]) ?_)
            | fail)
          obtain ⟨w4, hw4⟩ : ∃ V, V = (wr.alloc (.cells #[.bool false, .int .u8 0, .int .u64 0, .int .u64 0, .string ⟨#[]⟩, .slice none 0 0, .int .u8 0, .int .u8 0, .int .i64 0, .int .u8 0, .int .u8 0, .int .u64 0, .int .u64 0] 30)).setRow wr.heap.size (listX u U nu cu).toArray := ⟨_, rfl⟩
          rw [← hw4, act_put_none]
          have hX : w4.heap[wr.heap.size]? = some (.cells #[.bool u.g, .int .u8 u.o, .int .u64 u.q, .int .u64 u.t, .string u.r, .slice U nu cu, .int .u8 u.s, .int .u8 u.p, .int .i64 u.v, .int .u8 u.w, .int .u8 u.ga, .int .u64 u.gf, .int .u64 u.gt] 30 (0, 0)) := by rw [hw4]; exact setRow_heap _ _ _ _ _ _ (heap_alloc_new _ _)
          have hb4 : Below wr.heap.size wr w4 := by rw [hw4]; exact below_setRow ((Below.refl _ _).alloc (Nat.le_refl _) _) (Nat.le_refl _) _
          have HX4 := Lib.hid hX
          have hlt4 : wr.heap.size < w4.heap.size := (Array.getElem?_eq_some_iff.1 hX).1
          have HLt4 := Lib.hid hlt4
          have HB4 := Lib.hid (HBr.out.trans (hb4.mono HBr.out.size))
          have t1 := encode_any u U nu cu HE.out.hu HE.out.hs HE.out.en HE.out.lu w4 HE.out.lb (HE.out.rd w4 HB4.out)
          have HT1 := Lib.hid t1
          clear hw4 hX hb4 hlt4 t1 hrg HBr q1 q2
          go_wp2_with (first | (refine wpList_load_row rfl _ _ rfl wr.heap.size rfl _ _ _ _ HX4.out Try.underlying30 rfl (by kernel_rfl) ?_) | fail)
          refine HT1.out.mono ?_
          rintro e V1 ⟨v1, rfl, ho1, hb1⟩
          obtain ⟨A5, c5, rfl⟩ := own_slice1 ho1
          have t2 := decode_any A5 (itemB u).length c5 (itemB u) V1.heap.size V1 rfl (own_nil1 ho1) (by have := HE.out.lb; omega) (RdB.of_own ho1) (Nat.le_refl _) (itemB_ok HE.out.hu HE.out.hs (by have := HE.out.en; have := HE.out.lu; omega))
          obtain ⟨z, hz⟩ : ∃ z, decI (itemB u) = z := ⟨_, rfl⟩
          obtain ⟨er, her⟩ : ∃ z, decE (itemB u) = z := ⟨_, rfl⟩
          rw [hz, her] at t2
          have HT2 := Lib.hid t2
          have HZ := Lib.hid hz
          have HEr := Lib.hid her
          have HB5 := Lib.hid (HB4.out.trans (hb1.mono HB4.out.size))
          have HX5 := Lib.hid ((hb1.block _ HLt4.out).trans HX4.out)
          have HLt5 := Lib.hid (Nat.lt_of_lt_of_le HLt4.out hb1.size)
          clear ho1 hb1 t2 hz her HX4 HLt4 HB4 HT1
          go_wp2_with fail
          refine HT2.out.mono ?_
          rintro e V2 ⟨A6, n6, c6, rfl, hn6, ho6, hb6⟩
          have HN6 := Lib.hid hn6
          have HO6 := Lib.hid ho6
          have HB6 := Lib.hid (HB5.out.trans (hb6.mono HB5.out.size))
          have HX6 := Lib.hid ((hb6.block _ HLt5.out).trans HX5.out)
          have HLt6 := Lib.hid (Nat.lt_of_lt_of_le HLt5.out hb6.size)
          clear hn6 ho6 hb6 HB5 HX5 HLt5 HT2
          go_upto_region 11 with (first | (refine wpList_store_row rfl _ _ _ rfl V2.heap.size _ rfl rfl _ _ (heap_alloc_new _ _) Try.infoI rfl (by simp [Value.oneCell']) ?_) | fail)
          obtain ⟨w5, hw5⟩ : ∃ V, V = (V2.alloc (.cells #[.bool false, .int .u8 0, .int .u64 0, .int .u64 0, .string ⟨#[]⟩, .slice none 0 0, .int .u8 0, .int .u8 0, .int .i64 0, .int .u8 0, .int .u8 0, .int .u64 0, .int .u64 0] 30)).setRow V2.heap.size (#[.bool z.g, .int .u8 z.o, .int .u64 z.q, .int .u64 z.t, .string z.r, .slice A6 n6 c6, .int .u8 z.s, .int .u8 z.p, .int .i64 z.v, .int .u8 z.w, .int .u8 z.ga, .int .u64 z.gf, .int .u64 z.gt]) := ⟨_, rfl⟩
          rw [← hw5]
          have hY : w5.heap[V2.heap.size]? = some (.cells #[.bool z.g, .int .u8 z.o, .int .u64 z.q, .int .u64 z.t, .string z.r, .slice A6 n6 c6, .int .u8 z.s, .int .u8 z.p, .int .i64 z.v, .int .u8 z.w, .int .u8 z.ga, .int .u64 z.gf, .int .u64 z.gt] 30 (0, 0)) := by rw [hw5]; exact setRow_heap _ _ _ _ _ _ (heap_alloc_new _ _)
          have hb7 : Below V2.heap.size V2 w5 := by rw [hw5]; exact below_setRow ((Below.refl _ _).alloc (Nat.le_refl _) _) (Nat.le_refl _) _
          have hlt7 : V2.heap.size < w5.heap.size := (Array.getElem?_eq_some_iff.1 hY).1
          have HY7 := Lib.hid hY
          have HLt7 := Lib.hid hlt7
          have HB7 := Lib.hid (HB6.out.trans (hb7.mono HB6.out.size))
          have HX7 := Lib.hid ((hb7.block _ HLt6.out).trans HX6.out)
          have HO7 := Lib.hid (own_below HO6.out hb7)
          have hmu : nu ≤ maxLen := by have := HE.out.lu; unfold maxLen; omega
          have t3 := refItem_any u U nu cu w5 HE.out.en hmu (HE.out.rd w5 HB7.out) HE.out.hu
          have HT3 := Lib.hid t3
          have HMu := Lib.hid hmu
          clear hw5 hY hb7 hlt7 t3 hmu HO6 HX6 HB6
          go_wp2_with (first | (refine wpList_load_row rfl _ _ rfl wr.heap.size rfl _ _ _ _ HX7.out Try.underlying30 rfl (by kernel_rfl) ?_) | fail)
          refine HT3.out.mono ?_
          rintro e V3 ⟨rfl, hb8⟩
          have HB8 := Lib.hid (HB7.out.trans (hb8.mono HB7.out.size))
          have HX8 := Lib.hid ((hb8.block wr.heap.size (Nat.lt_of_lt_of_le HLt6.out (Nat.le_of_lt HLt7.out))).trans HX7.out)
          have HY8 := Lib.hid ((hb8.block V2.heap.size HLt7.out).trans HY7.out)
          have HO8 := Lib.hid (own_below HO7.out hb8)
          clear hb8 HB7 HX7 HY7 HO7 HT3 HLt6 HLt7
          by_cases hi : itemN u = 0
          · have hd := dec_right HE.out.hu hi
            have her0 : er = 0 := HEr.out.symm.trans hd.1
            have hs1 : Hid (sameI u z = true) := by show _ = _; rw [← HZ.out, hd.2]; exact (normI_eq _ _).2 (normI_norm u).symm
            subst her0
            have p1 : ((itemN u : Int) == 0) = true := by rw [hi]; rfl
            clear hd hi
            go_wp2_with (first
              | ((with_reducible refine wpList_at (op := ⟨some 66, _, _, _, _, _⟩) ?_); refine wpList_load_wanted (by rfl) _ _ rfl wr.heap.size 0 rfl (listX u U nu cu) _ (rangeX HX8.out) Try.underlying30 rfl (by kernel_rfl) ?_)
              | ((with_reducible refine wpList_at (op := ⟨some 67, _, _, _, _, _⟩) ?_); refine wpList_load_wanted (by rfl) _ _ rfl V2.heap.size 0 rfl (listX z A6 n6 c6) _ (rangeX HY8.out) Try.underlying30 rfl (by kernel_rfl) ?_)
              | fail)
            refine (refSame_true hs1.out U nu cu A6 n6 c6 V3 HE.out.en HN6.out HMu.out (HE.out.rd V3 HB8.out) (RdP.of_own HO8.out)).mono ?_
            rintro e V4 ⟨rfl, hb9⟩
            have HB9 := Lib.hid (HB8.out.trans (hb9.mono HB8.out.size))
            clear hb9
            go_wp2_with fail
            exact ⟨⟨k + 1, by omega, by go_num, HB9.out⟩, by simp [intOf]; omega⟩
          · have hd := dec_wrong HE.out.hu HE.out.hs (by have := HE.out.en; have := HE.out.lu; omega) hi
            rw [HEr.out] at hd
            have p1 : ((itemN u : Int) == 0) = false := by rw [beq_eq_false_iff_ne]; omega
            have p2 : ((er : Int) == 0) = false := by rw [beq_eq_false_iff_ne]; omega
            clear hd hi
            go_wp2_with fail
            exact ⟨⟨k + 1, by omega, by go_num, HB8.out⟩, by simp [intOf]; omega⟩
        · have q1 : decide ((k : Int) < 2) = false := decide_eq_false (by omega)
          have q2 : decide (k < 2) = false := decide_eq_false hk2
          have HBw := Lib.hid (HB3.out.trans (HBr.out.mono HB3.out.size))
          have h300 := H300.out
          have t1 := decode_any B nb cb bl w.heap.size wr HNB.out HQB.out (by omega) (HRB.out.below HBw.out) HBw.out.size HOB.out
          obtain ⟨z, hz⟩ : ∃ z, decI bl = z := ⟨_, rfl⟩
          obtain ⟨er, her⟩ : ∃ z, decE bl = z := ⟨_, rfl⟩
          rw [hz, her] at t1
          have HT1 := Lib.hid t1
          have HZ := Lib.hid hz
          have HEr := Lib.hid her
          clear hk2 hk HBr HEl HB3 h300 t1 hz her
          go_wp2_with fail
          refine HT1.out.mono ?_
          rintro e V1 ⟨A6, n6, c6, rfl, hn6, ho6, hb6⟩
          have HN6 := Lib.hid hn6
          have HO6 := Lib.hid ho6
          have HB6 := Lib.hid (HBw.out.trans (hb6.mono HBw.out.size))
          clear hn6 ho6 hb6 HT1 q1 q2
          go_upto_region 16 with (first | (refine wpList_store_row rfl _ _ _ rfl V1.heap.size _ rfl rfl _ _ (heap_alloc_new _ _) Try.infoI rfl (by simp [Value.oneCell']) ?_) | fail)
          obtain ⟨w5, hw5⟩ : ∃ V, V = (V1.alloc (.cells #[.bool false, .int .u8 0, .int .u64 0, .int .u64 0, .string ⟨#[]⟩, .slice none 0 0, .int .u8 0, .int .u8 0, .int .i64 0, .int .u8 0, .int .u8 0, .int .u64 0, .int .u64 0] 30)).setRow V1.heap.size (#[.bool z.g, .int .u8 z.o, .int .u64 z.q, .int .u64 z.t, .string z.r, .slice A6 n6 c6, .int .u8 z.s, .int .u8 z.p, .int .i64 z.v, .int .u8 z.w, .int .u8 z.ga, .int .u64 z.gf, .int .u64 z.gt]) := ⟨_, rfl⟩
          rw [← hw5]
          have hY : w5.heap[V1.heap.size]? = some (.cells #[.bool z.g, .int .u8 z.o, .int .u64 z.q, .int .u64 z.t, .string z.r, .slice A6 n6 c6, .int .u8 z.s, .int .u8 z.p, .int .i64 z.v, .int .u8 z.w, .int .u8 z.ga, .int .u64 z.gf, .int .u64 z.gt] 30 (0, 0)) := by rw [hw5]; exact setRow_heap _ _ _ _ _ _ (heap_alloc_new _ _)
          have hb7 : Below V1.heap.size V1 w5 := by rw [hw5]; exact below_setRow ((Below.refl _ _).alloc (Nat.le_refl _) _) (Nat.le_refl _) _
          have hlt7 : V1.heap.size < w5.heap.size := (Array.getElem?_eq_some_iff.1 hY).1
          have HY7 := Lib.hid hY
          have HYx := Lib.hid (show ∀ V, Below w5.heap.size w5 V → V.heap[V1.heap.size]? = some (.cells #[.bool z.g, .int .u8 z.o, .int .u64 z.q, .int .u64 z.t, .string z.r, .slice A6 n6 c6, .int .u8 z.s, .int .u8 z.p, .int .i64 z.v, .int .u8 z.w, .int .u8 z.ga, .int .u64 z.gf, .int .u64 z.gt] 30 (0, 0)) from fun V hV => (hV.block _ hlt7).trans hY)
          have HB7 := Lib.hid (HB6.out.trans (hb7.mono HB6.out.size))
          have HO7 := Lib.hid (own_below HO6.out hb7)
          clear hw5 hY hb7 hlt7 HO6 HB6
          by_cases her0 : er = 0
          · have hd := dec_back HOB.out (HEr.out.trans her0)
            have hzz : (takeR (bl, 0)).1 = z := by rw [← HZ.out]; unfold decI; rw [if_pos (HEr.out.trans her0)]
            have hsh := take_short bl (by rw [hzz]; rw [HZ.out] at hd; exact hd.2.2.2)
            rw [hzz] at hsh
            rw [HZ.out] at hd
            obtain ⟨hz1, hz2, hz3, _⟩ := hd
            subst her0
            have hlb : (itemB z).length ≤ 1999000 := by rw [← hz2, ← HNB.out]; have := H300.out; omega
            have HRby := Lib.hid (show ∀ V, Below w5.heap.size w5 V → Calls Try.prog 15 #[.agg #[.bool z.g, .int .u8 z.o, .int .u64 z.q, .int .u64 z.t, .string z.r, .slice A6 n6 c6, .int .u8 z.s, .int .u8 z.p, .int .i64 z.v, .int .u8 z.w, .int .u8 z.ga, .int .u64 z.gf, .int .u64 z.gt]] V fun e w' => ∃ v', e = .returned v' ∧ w'.ownsRow V.heap.size 5 1 v' bl.length (cellsB bl) ∧ Below V.heap.size V w' from fun V hV => by
              have h := refBytes_any z A6 n6 c6 hz3 hsh.1 HN6.out (by have := HN6.out; omega) V hlb (RdP.of_own (own_below HO7.out hV))
              rw [← hz2] at h
              exact h)
            have HRit := Lib.hid (show ∀ V, Below w5.heap.size w5 V → Calls Try.prog 10 #[.agg #[.bool z.g, .int .u8 z.o, .int .u64 z.q, .int .u64 z.t, .string z.r, .slice A6 n6 c6, .int .u8 z.s, .int .u8 z.p, .int .i64 z.v, .int .u8 z.w, .int .u8 z.ga, .int .u64 z.gf, .int .u64 z.gt]] V fun e w' => e = .returned (.int .i64 0) ∧ Below V.heap.size V w' from fun V hV => by
              have h := refItem_any z A6 n6 c6 V HN6.out (by have := HN6.out; unfold maxLen; omega) (RdP.of_own (own_below HO7.out hV)) hz3
              rw [hz1] at h
              exact h)
            have hsb := strB_self bl
            clear hz1 hz2 hz3 hsh hlb hzz
            go_upto_region 18 with fail
            refine wp_region_noPanic ?_
            refine wp_region_held_drew (S := (fun V => Below w5.heap.size w5 V)) (by kernel_rfl) ?_ (fun hHeld => ?_)
            · exact (Below.refl _ _).drew
            refine heldTake (i := 0) (v := .agg #[.bool z.g, .int .u8 z.o, .int .u64 z.q, .int .u64 z.t, .string z.r, .slice A6 n6 c6, .int .u8 z.s, .int .u8 z.p, .int .i64 z.v, .int .u8 z.w, .int .u8 z.ga, .int .u64 z.gf, .int .u64 z.gt]) rfl (by kernel_rfl) (by kernel_rfl) (by kernel_rfl) (fun _ _ _ h => h) (yieldsIf_load_mid (by rfl) _ _ rfl V1.heap.size 0 rfl (listX z A6 n6 c6) _ (fun V hV => rangeX (HYx.out V hV)) Try.underlying30 rfl (by kernel_rfl)) (by assumption) ?_
            try simp only [heldPut, List.set]
            refine heldTake (i := 3) (v := ?_) rfl (by kernel_rfl) (by kernel_rfl) (by kernel_rfl) (fun _ _ _ h => h) (Or.inl ⟨by rfl, ?_⟩) (by assumption) ?_
            rotate_left
            · (intro w hSw; (try dsimp only at hSw); go_simp; try with_reducible rfl)
            try simp only [heldPut, List.set]
            refine heldTake (i := 4) (v := ?_) rfl (by kernel_rfl) (by kernel_rfl) (by kernel_rfl) (fun _ _ _ h => h) (Or.inl ⟨by rfl, ?_⟩) (by assumption) ?_
            rotate_left
            · (intro w hSw; have k := conv_any (c := cb) (HRB.out.below (HB7.out.trans (hSw.mono HB7.out.size))) HNB.out HQB.out; clear hSw; (try dsimp only at k); go_simp; try with_reducible rfl)
            try simp only [heldPut, List.set]
            refine heldOne (i := 1) rfl (by kernel_rfl) (fun K hK => ?_)
            go_simp
            refine (HRby.out _ hHeld).mono ?_
            rintro e V2 ⟨v2, rfl, ho2, hb⟩
            have HO2 := Lib.hid ho2
            have HB8 := Lib.hid (hHeld.trans (hb.mono hHeld.size))
            clear ho2 hb
            go_wp2_with fail
            refine hK.out _ _ ?_ (fun hHeld1 => ?_)
            · exact HB8.out
            clear hK K
            try simp only [heldPut, List.set]
            refine heldMore (S2 := fun V => Below w5.heap.size w5 V ∧ Below V2.heap.size V2 V) (fun _ h => h.1) ?_
            have hH1 : Below w5.heap.size w5 V2 ∧ Below V2.heap.size V2 V2 := ⟨HB8.out, Below.refl _ _⟩
            clear hHeld hHeld1
            refine heldTake (i := 2) (v := ?_) rfl (by kernel_rfl) (by kernel_rfl) (by kernel_rfl) (fun _ _ _ h => h) (Or.inl ⟨by rfl, ?_⟩) (by assumption) ?_
            rotate_left
            · (intro w hSw; have k := conv_own2 (own_below HO2.out hSw.2) rfl; clear hSw; (try dsimp only at k); go_simp; try with_reducible rfl)
            try simp only [heldPut, List.set]
            refine heldTake (i := 5) (v := ?_) rfl (by kernel_rfl) (by kernel_rfl) (by kernel_rfl) (fun _ _ _ h => h) (Or.inl ⟨by rfl, ?_⟩) (by assumption) ?_
            rotate_left
            · (intro w hSw; (try dsimp only at hSw); go_simp; try with_reducible rfl)
            try simp only [heldPut, List.set]
            refine heldTake (i := 6) (v := ?_) rfl (by kernel_rfl) (by kernel_rfl) (by kernel_rfl) (fun _ _ _ h => h) (Or.inl ⟨by rfl, ?_⟩) (by assumption) ?_
            rotate_left
            · (intro w hSw; (try dsimp only at hSw); go_simp; try with_reducible rfl)
            try simp only [heldPut, List.set]
            refine heldTake (i := 7) (v := .agg #[.bool z.g, .int .u8 z.o, .int .u64 z.q, .int .u64 z.t, .string z.r, .slice A6 n6 c6, .int .u8 z.s, .int .u8 z.p, .int .i64 z.v, .int .u8 z.w, .int .u8 z.ga, .int .u64 z.gf, .int .u64 z.gt]) rfl (by kernel_rfl) (by kernel_rfl) (by kernel_rfl) (fun _ _ _ h => h) (yieldsIf_load_mid (by rfl) _ _ rfl V1.heap.size 0 rfl (listX z A6 n6 c6) _ (fun V hV => rangeX (HYx.out V hV.1)) Try.underlying30 rfl (by kernel_rfl)) (by assumption) ?_
            try simp only [heldPut, List.set]
            refine heldOne (i := 8) rfl (by kernel_rfl) (fun K hK => ?_)
            go_simp
            refine (HRit.out _ hH1.1).mono ?_
            rintro e V3 ⟨rfl, hb⟩
            have HB9 := Lib.hid hb
            clear hb
            go_wp2_with fail
            refine hK.out _ _ ?_ (fun hH2 => ?_)
            · exact ⟨hH1.1.trans (HB9.out.mono hH1.1.size), hH1.2.trans (HB9.out.mono hH1.2.size)⟩
            clear hK K
            try simp only [heldPut, List.set]
            refine heldTake (i := 9) (v := ?_) rfl (by kernel_rfl) (by kernel_rfl) (by kernel_rfl) (fun _ _ _ h => h) (Or.inl ⟨by rfl, ?_⟩) (by assumption) ?_
            rotate_left
            · (intro w hSw; (try dsimp only at hSw); go_simp; try with_reducible rfl)
            try simp only [heldPut, List.set]
            refine heldTake (i := 10) (v := ?_) rfl (by kernel_rfl) (by kernel_rfl) (by kernel_rfl) (fun _ _ _ h => h) (Or.inl ⟨by rfl, ?_⟩) (by assumption) ?_
            rotate_left
            · (intro w hSw; (try dsimp only at hSw); go_simp; try with_reducible rfl)
            try simp only [heldPut, List.set]
            refine heldTake (i := 11) (v := ?_) rfl (by kernel_rfl) (by kernel_rfl) (by kernel_rfl) (fun _ _ _ h => h) (Or.inl ⟨by rfl, ?_⟩) (by assumption) ?_
            rotate_left
            · (intro w hSw; (try dsimp only at hSw); go_simp; try with_reducible rfl)
            try simp only [heldPut, List.set]
            refine wpAnyH_done (by kernel_rfl) ?_ _
            refine NoPanic.normal ?_
            have hend := HB7.out.trans (hH2.1.mono HB7.out.size)
            clear hH1 hH2
            go_wp2_with fail
            go_ret
            exact ⟨by first | rfl | simp, hend⟩
          · have hzz : z = zeroI := by rw [← HZ.out]; unfold decI; rw [HEr.out, if_neg her0]
            have p1 : ((er : Int) != 0) = true := by rw [bne_iff_ne]; omega
            have HN7 : Hid (n6 = zeroI.l.length) := by show _ = _; rw [← hzz]; exact HN6.out
            have HR7 : Hid (RdP w5 w5.heap.size A6 zeroI.l) := by show RdP _ _ _ _; rw [← hzz]; exact RdP.of_own HO7.out
            have HMz : Hid (n6 ≤ maxLen) := by show n6 ≤ maxLen; rw [HN7.out]; exact Nat.zero_le _
            clear HZ HEr HO7 HN6 HYx
            subst hzz
            clear her0
            go_wp2_with (first | (refine wpList_load_row rfl _ _ rfl V1.heap.size rfl _ _ _ _ HY7.out Try.underlying30 rfl (by kernel_rfl) ?_) | fail)
            refine (refSame_true (x := zeroI) (y := zeroI) (sameI_refl zeroI) A6 n6 c6 none 0 0 w5 HN7.out rfl HMz.out HR7.out RdP.nil).mono ?_
            rintro e V2 ⟨rfl, hb9⟩
            have HB9 := Lib.hid (HB7.out.trans (hb9.mono HB7.out.size))
            clear hb9
            go_wp2_with fail
            go_ret
            exact ⟨rfl, HB9.out⟩
end Go.Proofs.Ytkkilfoncdbciaa.itemBytes
