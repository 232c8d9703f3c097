/- Several texts in one: SdMark, SdAck. -/
import Derived.Laws.CopyOwn
import Derived.Test.YtocdhnlffemnhaaQa26
/- Layer 10: mark. -/
namespace Go.Proofs.Ytocdhnlffemnhaa
open Go.RowKit

/-- is the number marked by the bits, of which bit 0 stands for fr? -/
def bitB (bits j : Nat) : Bool := (Go.bits BinOp.and IntKind.u64 ((bits : Int) / 2 ^ min j 64) 1 == 1)
def markB (fr bits q : Nat) : Bool := decide (fr ≤ q) && bitB bits (q - fr)
def markF (fr bits : Nat) (f : Fg) : Fg := if markB fr bits f.q then { f with c := true } else f
def markL (fr bits : Nat) (L : List Fg) : List Fg := L.map (markF fr bits)
def markK (fr bits k : Nat) (L : List Fg) : List Fg := (L.take k).map (markF fr bits) ++ L.drop k
theorem markK_len (fr bits k : Nat) (L : List Fg) : (markK fr bits k L).length = L.length := by
  unfold markK
  rw [List.length_append, List.length_map, ← List.length_append, List.take_append_drop]
theorem markK_zero (fr bits : Nat) (L : List Fg) : markK fr bits 0 L = L := rfl
theorem markK_all (fr bits : Nat) (L : List Fg) : markK fr bits L.length L = markL fr bits L := by
  unfold markK markL
  rw [List.take_length, List.drop_length, List.append_nil]
theorem markK_get {fr bits k : Nat} {L : List Fg} {f : Fg} (h : L[k]? = some f) : (markK fr bits k L)[k]? = some f := by
  have hk := (List.getElem?_eq_some_iff.1 h).1
  unfold markK
  rw [List.getElem?_append_right (by rw [List.length_map, List.length_take]; omega), List.length_map, List.length_take, Nat.min_eq_left (by omega), Nat.sub_self, List.getElem?_drop, Nat.add_zero]
  exact h
theorem markK_step {fr bits k : Nat} {L : List Fg} {f : Fg} (h : L[k]? = some f) : markK fr bits (k + 1) L = (markK fr bits k L).set k (markF fr bits f) := by
  have hk := (List.getElem?_eq_some_iff.1 h).1
  have hd : L.drop k = f :: L.drop (k + 1) := by
    rw [List.drop_eq_getElem_cons hk, (List.getElem?_eq_some_iff.1 h).2]
  unfold markK
  rw [hd, List.take_add_one, h, List.set_append_right _ _ (by rw [List.length_map, List.length_take]; omega), List.length_map, List.length_take, Nat.min_eq_left (by omega), Nat.sub_self]
  simp
theorem SdAt.get {w : World} {S : Nat → Prop} {s k n c : Nat} {X : Sd} {A : Option Addr} {L : List Fg} {f : Fg} (h : SdAt w S s X L) (hv : w.cell? ⟨s, 4, none⟩ = some (.slice A n c)) (hk : L[k]? = some f) :
    n = L.length ∧ ∃ g o, A = some ⟨g, o, none⟩ ∧ S g ∧ g ≠ s ∧ (∀ j, w.frozen? ⟨g, j, none⟩ = false) ∧ w.rangeAt g (o + k * 6) (flC f) := by
  obtain ⟨v, h1, h2⟩ := h.row
  have e : v = .slice A n c := by
    have h3 : w.cell? ⟨s, 4, none⟩ = some v := cell_of_row _ _ 4 _ _ _ h1
    rw [hv] at h3
    exact (Option.some.inj h3).symm
  subst e
  obtain ⟨g, o, c', e, hS, hgs, hf, hr⟩ := h2.at_ hk
  injection e with e1 e2 e3
  exact ⟨e2, g, o, e1, hS, hgs, hf, hr⟩
theorem boxFg (W : World) (Z : Array Value) (f : Fg) : ∃ V, V = (W.alloc (.cells Z 93)).setRow W.heap.size (flC f).toArray ∧ V.heap[W.heap.size]? = some (.cells (flC f).toArray 93 (0, 0)) ∧ Below W.heap.size W V ∧
    W.heap.size < V.heap.size := by
  have h := setRow_heap (W.alloc (.cells Z 93)) W.heap.size Z (flC f).toArray _ _ (heap_alloc_new _ _)
  exact ⟨_, rfl, h, below_setRow ((Below.refl _ _).alloc (Nat.le_refl _) _) (Nat.le_refl _) _, (Array.getElem?_eq_some_iff.1 h).1⟩
theorem act_none (a : Act) (v : Value) : a.put none v = a := rfl
section
variable {S : Nat → Prop} {s : Nat} {X : Sd} {L : List Fg}
set_option maxRecDepth 100000 in
set_option maxHeartbeats 1000000 in
theorem sdmark_any {fr bits : Nat} (w : World) (h : SdAt w S s X L) (hlq : ∀ f ∈ L, f.q < 18446744073709551616) :
    Calls Try.prog 38 #[.pointer (some ⟨s, 0, none⟩), .int .u64 fr, .int .u64 bits] w fun e w' => e = .returned (.tuple #[]) ∧ SdAt w' S s X (markL fr bits L) ∧ Step w S w' S := by
  obtain ⟨v, h1, h2⟩ := h.row
  obtain ⟨A, c, rfl⟩ := h2.slice
  have hfw := h.few
  obtain ⟨n, hn⟩ : ∃ n, n = L.length := ⟨_, rfl⟩
  rw [← hn] at hfw h1 h2
  have c4 : w.cell? ⟨s, 4, none⟩ = some (.slice A n c) := cell_of_row _ _ 4 _ _ _ h1
  have HH := Lib.hid h
  have HN := Lib.hid hn
  have HLQ := Lib.hid hlq
  clear h h1 h2 hn hlq
  go_enter Try.func38, Try.ntmps38
  go_wp2
  have HC4 := Lib.hid c4
  clear c4
  go_loopw [13] (fun iv wx => ∃ k : Nat, k ≤ n ∧ iv = .int .i64 k ∧ Hid (SdAt wx S s X (markK fr bits k L) ∧ wx.cell? ⟨s, 4, none⟩ = some (.slice A n c) ∧ Only S w wx)) (fun iv _ => n - (intOf iv).toNat)
  case atStart => exact ⟨0, Nat.zero_le _, rfl, HH.out, HC4.out, Only.refl _ _⟩
  case round =>
    obtain ⟨k, hk, rfl, HB⟩ := hrel
    by_cases hlt : k < n
    · obtain ⟨f, hf⟩ : ∃ f, L[k]? = some f := ⟨L[k]'(by rw [← HN.out]; exact hlt), List.getElem?_eq_getElem _⟩
      obtain ⟨-, g, o, rfl, hS, hgs, hfz, hr⟩ := HB.out.1.get HB.out.2.1 (markK_get hf)
      have HF := Lib.hid hf
      have hfz5 := hfz (o + k * 6 + 5)
      have HFZ := Lib.hid hfz
      clear hf hfz hfz5
      go_upto_region 3 with (first
        | (refine wpList_load_mid rfl _ _ rfl g (o + k * 6) rfl (flC f) _ hr Try.underlying93 rfl Try.infoFg ?_)
        | (refine wpList_store_row rfl _ _ _ rfl wr.heap.size _ rfl rfl _ _ (heap_alloc_new _ _) Try.infoFg rfl (by simp [Value.oneCell', flC]) ?_)
        | fail)
      obtain ⟨V, hV, hbx, hbV, hlV⟩ := boxFg wr _ f
      rw [← hV, act_none]
      have b0 : V.cell? ⟨wr.heap.size, 0, none⟩ = some (.int .u64 f.q) := cell_of_row _ _ 0 _ _ _ hbx
      have hl1 : wr.heap.size = wr.heap.size := rfl
      obtain ⟨p, hp⟩ : ∃ p, p = wr.heap.size := ⟨_, rfl⟩
      rw [← hp] at b0 ⊢
      have hsV : SdAt V S s X (markK fr bits k L) := HB.out.1.below hbV
      have c4V : V.cell? ⟨s, 4, none⟩ = some (.slice (some ⟨g, o, none⟩) n c) := (hbV.cell (p := ⟨s, 4, none⟩) (HB.out.1.lt s HB.out.1.sS)).trans HB.out.2.1
      have hOV : Only S w V := HB.out.2.2.trans (Only.of_below hbV S) (fun _ h => .inl h)
      have fzV : V.frozen? ⟨g, o + k * 6 + 5, none⟩ = false := (hbV.frozen (p := ⟨g, o + k * 6 + 5, none⟩) (HB.out.1.lt g hS)).trans (HFZ.out _)
      have c5V : V.cell? ⟨g, o + k * 6 + 5, none⟩ = some (.bool f.c) := (hbV.cell (p := ⟨g, o + k * 6 + 5, none⟩) (HB.out.1.lt g hS)).trans (hr 5 _ rfl)
      have HV := Lib.hid (⟨hsV, hOV⟩ : _ ∧ _)
      clear hV hbx hbV hlV hl1 hp hsV hOV hr HB HFZ
      have stay : markB fr bits f.q = false → Hid (SdAt V S s X (markK fr bits (k + 1) L) ∧ V.cell? ⟨s, 4, none⟩ = some (.slice (some ⟨g, o, none⟩) n c) ∧ Only S w V) := fun hb => by
        have e : markF fr bits f = f := by unfold markF; rw [hb]; rfl
        have e2 : markK fr bits (k + 1) L = markK fr bits k L := by
          rw [markK_step HF.out, e]
          have h5 := markK_get (fr := fr) (bits := bits) HF.out
          obtain ⟨h6, h7⟩ := List.getElem?_eq_some_iff.1 h5
          rw [← h7]
          exact List.set_getElem_self h6
        rw [e2]
        exact ⟨HV.out.1, c4V, HV.out.2⟩
      have STAY := Lib.hid stay
      have hqb := HLQ.out f (List.mem_of_getElem? HF.out)
      by_cases hq : fr ≤ f.q
      · have d1 : decide (fr ≤ f.q) = true := decide_eq_true hq
        obtain ⟨j, hj⟩ : ∃ j, j = f.q - fr := ⟨_, rfl⟩
        have e1 : IntKind.u64.wrap ((f.q : Int) - fr) = (j : Int) := by rw [IntKind.wrap_u64]; omega
        cases hbit : bitB bits (f.q - fr) with
        | false =>
          have d2 : (Go.bits BinOp.and IntKind.u64 ((bits : Int) / 2 ^ min j 64) 1 == 1) = false := by rw [hj]; exact hbit
          have HE := Lib.hid (STAY.out (by unfold markB; rw [d1, hbit]; rfl))
          clear hbit stay hj hqb
          go_wp2
          go_roundw
          case rel => exact ⟨k + 1, by omega, by go_num, HE.out⟩
          case measure => simp [intOf]; omega
        | true =>
          have d2 : (Go.bits BinOp.and IntKind.u64 ((bits : Int) / 2 ^ min j 64) 1 == 1) = true := by rw [hj]; exact hbit
          have hm : markF fr bits f = { f with c := true } := by
            have hb : markB fr bits f.q = true := by unfold markB; rw [d1, hbit]; rfl
            unfold markF; rw [hb]; rfl
          have hset := HV.out.1.put (g := g) (o := o) (c := c) (k := k) (j := 5) (f := f) (f' := { f with c := true }) (u := .bool true) (by rw [markK_len, ← HN.out]; exact c4V) (markK_get HF.out) (by decide) rfl
          rw [← hm, ← markK_step HF.out, markK_len, ← HN.out] at hset
          have HE : Hid (SdAt (V.setCell ⟨g, o + k * 6 + 5, none⟩ (.bool true)) S s X (markK fr bits (k + 1) L) ∧ (V.setCell ⟨g, o + k * 6 + 5, none⟩ (.bool true)).cell? ⟨s, 4, none⟩ = some (.slice (some ⟨g, o, none⟩) n c) ∧ Only S w (V.setCell ⟨g, o + k * 6 + 5, none⟩ (.bool true))) :=
            ⟨hset.1, hset.2, HV.out.2.trans (Only.setCell (T := S) _ _ _ hS) (fun _ h => .inl h)⟩
          clear hbit stay hset hm hj hqb
          go_wp2
          go_roundw
          case rel => exact ⟨k + 1, by omega, by go_num, HE.out⟩
          case measure => simp [intOf]; omega
      · have d1 : decide (fr ≤ f.q) = false := decide_eq_false hq
        have HE := Lib.hid (STAY.out (by unfold markB; rw [d1]; rfl))
        clear stay hqb
        go_wp2
        go_roundw
        case rel => exact ⟨k + 1, by omega, by go_num, HE.out⟩
        case measure => simp [intOf]; omega
    · obtain rfl : k = n := by omega
      have HE : Hid (SdAt wr S s X (markL fr bits L) ∧ Step w S wr S) := by
        have h5 := HB.out.1
        have e : markK fr bits k L = markL fr bits L := by rw [HN.out]; exact markK_all fr bits L
        rw [e] at h5
        exact ⟨h5, HB.out.2.2, fun _ h => .inl h⟩
      go_wp2
      go_end0
      exact ⟨rfl, HE.out⟩
end
end Go.Proofs.Ytocdhnlffemnhaa
/- Layer 10: Ack. -/
namespace Go.Proofs.Ytocdhnlffemnhaa
open Go.RowKit

def headF : List Fg → List Fg
  | [] => []
  | f :: r => { f with c := false } :: r
theorem headF_len (L : List Fg) : (headF L).length = L.length := by cases L <;> rfl
section
variable {S : Nat → Prop} {s : Nat} {X : Sd} {L : List Fg}
set_option maxRecDepth 100000 in
set_option maxHeartbeats 400000 in
theorem sdack_nil (cum bits : Nat) (w : World) : Calls Try.prog 26 #[.pointer none, .int .u64 cum, .int .u64 bits] w fun e w' => e = .returned (.tuple #[.int .u64 0, .int .i64 1]) ∧ w = w' := by
  go_enter Try.func26, Try.ntmps26
  go_wp2
  go_ret2
  exact ⟨rfl, rfl⟩
set_option maxRecDepth 100000 in
set_option maxHeartbeats 400000 in
theorem sdack_wrong {cum bits : Nat} (w : World) (h : SdAt w S s X L) (hb : X.b ≤ 1099511627776000) (hc : X.b + L.length + 1 ≤ cum) :
    Calls Try.prog 26 #[.pointer (some ⟨s, 0, none⟩), .int .u64 cum, .int .u64 bits] w fun e w' => e = .returned (.tuple #[.int .u64 0, .int .i64 6]) ∧ Below w.heap.size w w' := by
  have HN := Lib.hid (sdnext_any w h hb)
  obtain ⟨q, hq⟩ : ∃ q, q = X.b + L.length + 1 := ⟨_, rfl⟩
  rw [← hq] at HN hc
  have d1 : decide (q ≤ cum) = true := decide_eq_true hc
  clear hq h
  go_enter Try.func26, Try.ntmps26
  go_wp2_with fail
  refine HN.out.mono ?_
  rintro _ w1 ⟨rfl, hb1⟩
  have HB := Lib.hid hb1
  clear hb1
  go_wp2
  go_ret2
  exact ⟨rfl, HB.out⟩
set_option maxRecDepth 100000 in
set_option maxHeartbeats 1000000 in
theorem sdack_of {cum bits ix : Nat} {X1 : Sd} {L1 : List Fg} (w : World) (h : SdAt w S s X L) (hb : X.b ≤ 1099511627776000) (hc : cum < X.b + L.length + 1) (hq : ∀ f ∈ L1, f.q < 18446744073709551616) (hl : L.length ≤ 100000)
    (HL : ∀ w1, Below w.heap.size w w1 → Calls Try.prog 37 #[.pointer (some ⟨s, 0, none⟩), .int .u64 cum] w1 fun e w' => e = .returned (.int .u64 ix) ∧ SdAt w' S s X1 L1 ∧ Step w1 S w' S) :
    Calls Try.prog 26 #[.pointer (some ⟨s, 0, none⟩), .int .u64 cum, .int .u64 bits] w fun e w' => e = .returned (.tuple #[.int .u64 ix, .int .i64 0]) ∧ SdAt w' S s X1 (headF (markL (cum + 2) bits L1)) ∧ Step w S w' S := by
  have HN := Lib.hid (sdnext_any w h hb)
  have HLD := Lib.hid HL
  have HQ := Lib.hid hq
  obtain ⟨q, hqq⟩ : ∃ q, q = X.b + L.length + 1 := ⟨_, rfl⟩
  have hq9 : cum < 2000000000000000 := by omega
  rw [← hqq] at HN hc
  have d1 : decide (q ≤ cum) = false := decide_eq_false (by omega)
  have d2 : decide ((q : Int) ≤ (cum : Int)) = false := decide_eq_false (by omega)
  obtain ⟨c2, hc2⟩ : ∃ c2, c2 = cum + 2 := ⟨_, rfl⟩
  have e1 : IntKind.u64.wrap ((cum : Int) + 2) = (c2 : Int) := by rw [IntKind.wrap_u64]; omega
  have e2 : (cum : Int) + 2 = (c2 : Int) := by omega
  rw [← hc2]
  clear hqq h hq HL hc2
  go_enter Try.func26, Try.ntmps26
  go_wp2_with fail
  refine HN.out.mono ?_
  rintro _ w1 ⟨rfl, hb1⟩
  have HB1 := Lib.hid hb1
  clear hb1
  go_wp2_with fail
  refine (HLD.out w1 HB1.out).mono ?_
  rintro _ w2 ⟨rfl, hs2, ht2⟩
  have HT2 := Lib.hid ((Step.of_below S HB1.out).trans ht2)
  have HM := Lib.hid (sdmark_any (fr := c2) (bits := bits) w2 hs2 HQ.out)
  clear hs2 ht2 HLD HN HB1
  go_wp2_with fail
  refine HM.out.mono ?_
  rintro _ w3 ⟨rfl, hs3, ht3⟩
  obtain ⟨L3, hL3⟩ : ∃ L3, L3 = markL c2 bits L1 := ⟨_, rfl⟩
  rw [← hL3] at hs3
  have HL3 := Lib.hid hL3
  have HT3 := Lib.hid (HT2.out.trans ht3)
  obtain ⟨v, k1, k2⟩ := hs3.row
  have HS3 := Lib.hid hs3
  clear hL3 ht3 HM HT2 hs3
  rcases Nat.eq_zero_or_pos L3.length with h0 | h0
  · obtain ⟨A, c, rfl⟩ := k2.slice
    have c4 : w3.cell? ⟨s, 4, none⟩ = some (.slice A 0 c) := by rw [← h0]; exact cell_of_row _ _ 4 _ _ _ k1
    obtain rfl : L3 = [] := List.eq_nil_of_length_eq_zero h0
    clear k1 k2 h0
    go_wp2
    go_ret2
    exact ⟨rfl, by rw [← HL3.out]; exact HS3.out, HT3.out⟩
  · obtain ⟨f, r, rfl⟩ : ∃ f r, L3 = f :: r := by
      cases L3 with
      | nil => simp at h0
      | cons f r => exact ⟨f, r, rfl⟩
    obtain ⟨g, o, c, rfl, hS, hgs, hfz, hr⟩ := k2.at_ (k := 0) (f := f) rfl
    have c4 : w3.cell? ⟨s, 4, none⟩ = some (.slice (some ⟨g, o, none⟩) (f :: r).length c) := cell_of_row _ _ 4 _ _ _ k1
    have hset := HS3.out.put (g := g) (o := o) (c := c) (k := 0) (j := 5) (f := f) (f' := { f with c := false }) (u := .bool false) c4 rfl (by decide) rfl
    have c5 : w3.cell? ⟨g, o + 5, none⟩ = some (.bool f.c) := by have := hr 5 _ rfl; rw [Nat.zero_mul, Nat.add_zero] at this; exact this
    have f5 := hfz (o + 5)
    rw [Nat.zero_mul, Nat.add_zero] at hset
    obtain ⟨n, hn⟩ : ∃ n, n = (f :: r).length := ⟨_, rfl⟩
    rw [← hn] at c4 h0
    have HF : Hid (SdAt (w3.setCell ⟨g, o + 5, none⟩ (.bool false)) S s X1 (headF (f :: r)) ∧ Step w S (w3.setCell ⟨g, o + 5, none⟩ (.bool false)) S) :=
      ⟨hset.1, HT3.out.trans ⟨Only.setCell (T := S) _ _ _ hS, fun _ h => .inl h⟩⟩
    clear k1 k2 hset hr hfz hn HS3 HT3
    go_wp2
    go_ret2
    exact ⟨rfl, by rw [← HL3.out]; exact HF.out.1, HF.out.2⟩
theorem sdack_old {cum bits : Nat} (w : World) (h : SdAt w S s X L) (hb : X.b ≤ 1099511627776000) (hc : cum ≤ X.b) (hq : ∀ f ∈ L, f.q < 18446744073709551616) :
    Calls Try.prog 26 #[.pointer (some ⟨s, 0, none⟩), .int .u64 cum, .int .u64 bits] w fun e w' => e = .returned (.tuple #[.int .u64 0, .int .i64 0]) ∧ SdAt w' S s X (headF (markL (cum + 2) bits L)) ∧ Step w S w' S :=
  sdack_of (ix := 0) w h hb (by omega) hq h.few fun w1 hb1 => (sdland_old w1 (h.below hb1) hc).mono fun e w' ⟨he, hw⟩ => ⟨he, hw ▸ h.below hb1, hw ▸ Step.refl _ _⟩
theorem sdack_new {cum bits m : Nat} {f : Fg} (w : World) (h : SdAt w S s X L) (hb : X.b ≤ 1099511627776000) (hc : cum = X.b + (m + 1)) (hm : m + 1 ≤ L.length) (hf : L[m]? = some f) (hcb : cum ≤ 1099511627776000) (hq : ∀ f ∈ L, f.q < 18446744073709551616) :
    Calls Try.prog 26 #[.pointer (some ⟨s, 0, none⟩), .int .u64 cum, .int .u64 bits] w fun e w' => e = .returned (.tuple #[.int .u64 f.i, .int .i64 0]) ∧ SdAt w' S s { X with b := cum } (headF (markL (cum + 2) bits (L.drop (m + 1)))) ∧ Step w S w' S :=
  sdack_of (ix := f.i) w h hb (by omega) (fun x hx => hq x (List.mem_of_mem_drop hx)) h.few fun w1 hb1 => sdland_any w1 (h.below hb1) hc hm hf hcb
end
/-- bits of 0 mark nothing -/
theorem bitB_zero (j : Nat) : bitB 0 j = false := by
  unfold bitB
  rw [show ((0 : Nat) : Int) / 2 ^ min j 64 = 0 by simp]
  decide
theorem markL_zero (fr : Nat) (L : List Fg) : markL fr 0 L = L := by
  unfold markL
  conv => rhs; rw [← List.map_id L]
  refine List.map_congr_left fun f _ => ?_
  unfold markF markB
  rw [bitB_zero, Bool.and_false]
  rfl
end Go.Proofs.Ytocdhnlffemnhaa
