/- Layer 10: mark. -/
import Derived.Test.YtholdcgkhicdmaaSdLand
import Derived.Laws.CopyOwn
namespace Go.Proofs.Ytholdcgkhicdmaa
open Go.RowKit

/-- is the number marked by the bits, of which bit 0 stands for fr? -/
def bitB (bits j : Nat) : Bool := (Go.bits BinOp.and IntKind.u64 ((bits : Int) / 2 ^ min j 64) 1 == 1)
def markB (fr bits q : Nat) : Bool := decide (fr ≤ q) && bitB bits (q - fr)
def markF (fr bits : Nat) (f : Fg) : Fg := if markB fr bits f.q then { f with c := true } else f
def markL (fr bits : Nat) (L : List Fg) : List Fg := L.map (markF fr bits)
def markK (fr bits k : Nat) (L : List Fg) : List Fg := (L.take k).map (markF fr bits) ++ L.drop k
theorem markK_len (fr bits k : Nat) (L : List Fg) : (markK fr bits k L).length = L.length := by
  unfold markK
  rw [List.length_append, List.length_map, ← List.length_append, List.take_append_drop]
theorem markK_zero (fr bits : Nat) (L : List Fg) : markK fr bits 0 L = L := rfl
theorem markK_all (fr bits : Nat) (L : List Fg) : markK fr bits L.length L = markL fr bits L := by
  unfold markK markL
  rw [List.take_length, List.drop_length, List.append_nil]
theorem markK_get {fr bits k : Nat} {L : List Fg} {f : Fg} (h : L[k]? = some f) : (markK fr bits k L)[k]? = some f := by
  have hk := (List.getElem?_eq_some_iff.1 h).1
  unfold markK
  rw [List.getElem?_append_right (by rw [List.length_map, List.length_take]; omega), List.length_map, List.length_take, Nat.min_eq_left (by omega), Nat.sub_self, List.getElem?_drop, Nat.add_zero]
  exact h
theorem markK_step {fr bits k : Nat} {L : List Fg} {f : Fg} (h : L[k]? = some f) : markK fr bits (k + 1) L = (markK fr bits k L).set k (markF fr bits f) := by
  have hk := (List.getElem?_eq_some_iff.1 h).1
  have hd : L.drop k = f :: L.drop (k + 1) := by
    rw [List.drop_eq_getElem_cons hk, (List.getElem?_eq_some_iff.1 h).2]
  unfold markK
  rw [hd, List.take_add_one, h, List.set_append_right _ _ (by rw [List.length_map, List.length_take]; omega), List.length_map, List.length_take, Nat.min_eq_left (by omega), Nat.sub_self]
  simp
theorem SdAt.get {w : World} {S : Nat → Prop} {s k n c : Nat} {X : Sd} {A : Option Addr} {L : List Fg} {f : Fg} (h : SdAt w S s X L) (hv : w.cell? ⟨s, 4, none⟩ = some (.slice A n c)) (hk : L[k]? = some f) :
    n = L.length ∧ ∃ g o, A = some ⟨g, o, none⟩ ∧ S g ∧ g ≠ s ∧ (∀ j, w.frozen? ⟨g, j, none⟩ = false) ∧ w.rangeAt g (o + k * 6) (flC f) := by
  obtain ⟨v, h1, h2⟩ := h.row
  have e : v = .slice A n c := by
    have h3 : w.cell? ⟨s, 4, none⟩ = some v := cell_of_row _ _ 4 _ _ _ h1
    rw [hv] at h3
    exact (Option.some.inj h3).symm
  subst e
  obtain ⟨g, o, c', e, hS, hgs, hf, hr⟩ := h2.at_ hk
  injection e with e1 e2 e3
  exact ⟨e2, g, o, e1, hS, hgs, hf, hr⟩
theorem boxF (W : World) (Z : Array Value) (f : Fg) : ∃ V, V = (W.alloc (.cells Z 48)).setRow W.heap.size (flC f).toArray ∧ V.heap[W.heap.size]? = some (.cells (flC f).toArray 48 (0, 0)) ∧ Below W.heap.size W V ∧
    W.heap.size < V.heap.size := by
  have h := setRow_heap (W.alloc (.cells Z 48)) W.heap.size Z (flC f).toArray _ _ (heap_alloc_new _ _)
  exact ⟨_, rfl, h, below_setRow ((Below.refl _ _).alloc (Nat.le_refl _) _) (Nat.le_refl _) _, (Array.getElem?_eq_some_iff.1 h).1⟩
theorem act_none (a : Act) (v : Value) : a.put none v = a := rfl
section
variable {S : Nat → Prop} {s : Nat} {X : Sd} {L : List Fg}
set_option maxRecDepth 100000 in
set_option maxHeartbeats 1000000 in
theorem sdmark_any {fr bits : Nat} (w : World) (h : SdAt w S s X L) (hlq : ∀ f ∈ L, f.q < 18446744073709551616) :
    Calls Try.prog 19 #[.pointer (some ⟨s, 0, none⟩), .int .u64 fr, .int .u64 bits] w fun e w' => e = .returned (.tuple #[]) ∧ SdAt w' S s X (markL fr bits L) ∧ Step w S w' S := by
  obtain ⟨v, h1, h2⟩ := h.row
  obtain ⟨A, c, rfl⟩ := h2.slice
  have hfw := h.few
  obtain ⟨n, hn⟩ : ∃ n, n = L.length := ⟨_, rfl⟩
  rw [← hn] at hfw h1 h2
  have c4 : w.cell? ⟨s, 4, none⟩ = some (.slice A n c) := cell_of_row _ _ 4 _ _ _ h1
  have HH := Lib.hid h
  have HN := Lib.hid hn
  have HLQ := Lib.hid hlq
  clear h h1 h2 hn hlq
  go_enter Try.func19, Try.ntmps19
  go_wp2
  have HC4 := Lib.hid c4
  clear c4
  go_loopw [13] (fun iv wx => ∃ k : Nat, k ≤ n ∧ iv = .int .i64 k ∧ Hid (SdAt wx S s X (markK fr bits k L) ∧ wx.cell? ⟨s, 4, none⟩ = some (.slice A n c) ∧ Only S w wx)) (fun iv _ => n - (intOf iv).toNat)
  case atStart => exact ⟨0, Nat.zero_le _, rfl, HH.out, HC4.out, Only.refl _ _⟩
  case round =>
    obtain ⟨k, hk, rfl, HB⟩ := hrel
    by_cases hlt : k < n
    · obtain ⟨f, hf⟩ : ∃ f, L[k]? = some f := ⟨L[k]'(by rw [← HN.out]; exact hlt), List.getElem?_eq_getElem _⟩
      obtain ⟨-, g, o, rfl, hS, hgs, hfz, hr⟩ := HB.out.1.get HB.out.2.1 (markK_get hf)
      have HF := Lib.hid hf
      have hfz5 := hfz (o + k * 6 + 5)
      have HFZ := Lib.hid hfz
      clear hf hfz hfz5
      go_upto_region 3 with (first
        | (refine wpList_load_mid rfl _ _ rfl g (o + k * 6) rfl (flC f) _ hr Try.underlying48 rfl Try.infoFg ?_)
        | (refine wpList_store_row rfl _ _ _ rfl wr.heap.size _ rfl rfl _ _ (heap_alloc_new _ _) Try.infoFg rfl (by simp [Value.oneCell', flC]) ?_)
        | fail)
      obtain ⟨V, hV, hbx, hbV, hlV⟩ := boxF wr _ f
      rw [← hV, act_none]
      have b0 : V.cell? ⟨wr.heap.size, 0, none⟩ = some (.int .u64 f.q) := cell_of_row _ _ 0 _ _ _ hbx
      have hl1 : wr.heap.size = wr.heap.size := rfl
      obtain ⟨p, hp⟩ : ∃ p, p = wr.heap.size := ⟨_, rfl⟩
      rw [← hp] at b0 ⊢
      have hsV : SdAt V S s X (markK fr bits k L) := HB.out.1.below hbV
      have c4V : V.cell? ⟨s, 4, none⟩ = some (.slice (some ⟨g, o, none⟩) n c) := (hbV.cell (p := ⟨s, 4, none⟩) (HB.out.1.lt s HB.out.1.sS)).trans HB.out.2.1
      have hOV : Only S w V := HB.out.2.2.trans (Only.of_below hbV S) (fun _ h => .inl h)
      have fzV : V.frozen? ⟨g, o + k * 6 + 5, none⟩ = false := (hbV.frozen (p := ⟨g, o + k * 6 + 5, none⟩) (HB.out.1.lt g hS)).trans (HFZ.out _)
      have c5V : V.cell? ⟨g, o + k * 6 + 5, none⟩ = some (.bool f.c) := (hbV.cell (p := ⟨g, o + k * 6 + 5, none⟩) (HB.out.1.lt g hS)).trans (hr 5 _ rfl)
      have HV := Lib.hid (⟨hsV, hOV⟩ : _ ∧ _)
      clear hV hbx hbV hlV hl1 hp hsV hOV hr HB HFZ
      have stay : markB fr bits f.q = false → Hid (SdAt V S s X (markK fr bits (k + 1) L) ∧ V.cell? ⟨s, 4, none⟩ = some (.slice (some ⟨g, o, none⟩) n c) ∧ Only S w V) := fun hb => by
        have e : markF fr bits f = f := by unfold markF; rw [hb]; rfl
        have e2 : markK fr bits (k + 1) L = markK fr bits k L := by
          rw [markK_step HF.out, e]
          have h5 := markK_get (fr := fr) (bits := bits) HF.out
          obtain ⟨h6, h7⟩ := List.getElem?_eq_some_iff.1 h5
          rw [← h7]
          exact List.set_getElem_self h6
        rw [e2]
        exact ⟨HV.out.1, c4V, HV.out.2⟩
      have STAY := Lib.hid stay
      have hqb := HLQ.out f (List.mem_of_getElem? HF.out)
      by_cases hq : fr ≤ f.q
      · have d1 : decide (fr ≤ f.q) = true := decide_eq_true hq
        obtain ⟨j, hj⟩ : ∃ j, j = f.q - fr := ⟨_, rfl⟩
        have e1 : IntKind.u64.wrap ((f.q : Int) - fr) = (j : Int) := by rw [IntKind.wrap_u64]; omega
        cases hbit : bitB bits (f.q - fr) with
        | false =>
          have d2 : (Go.bits BinOp.and IntKind.u64 ((bits : Int) / 2 ^ min j 64) 1 == 1) = false := by rw [hj]; exact hbit
          have HE := Lib.hid (STAY.out (by unfold markB; rw [d1, hbit]; rfl))
          clear hbit stay hj hqb
          go_wp2
          go_roundw
          case rel => exact ⟨k + 1, by omega, by go_num, HE.out⟩
          case measure => simp [intOf]; omega
        | true =>
          have d2 : (Go.bits BinOp.and IntKind.u64 ((bits : Int) / 2 ^ min j 64) 1 == 1) = true := by rw [hj]; exact hbit
          have hm : markF fr bits f = { f with c := true } := by
            have hb : markB fr bits f.q = true := by unfold markB; rw [d1, hbit]; rfl
            unfold markF; rw [hb]; rfl
          have hset := HV.out.1.put (g := g) (o := o) (c := c) (k := k) (j := 5) (f := f) (f' := { f with c := true }) (u := .bool true) (by rw [markK_len, ← HN.out]; exact c4V) (markK_get HF.out) (by decide) rfl
          rw [← hm, ← markK_step HF.out, markK_len, ← HN.out] at hset
          have HE : Hid (SdAt (V.setCell ⟨g, o + k * 6 + 5, none⟩ (.bool true)) S s X (markK fr bits (k + 1) L) ∧ (V.setCell ⟨g, o + k * 6 + 5, none⟩ (.bool true)).cell? ⟨s, 4, none⟩ = some (.slice (some ⟨g, o, none⟩) n c) ∧ Only S w (V.setCell ⟨g, o + k * 6 + 5, none⟩ (.bool true))) :=
            ⟨hset.1, hset.2, HV.out.2.trans (Only.setCell (T := S) _ _ _ hS) (fun _ h => .inl h)⟩
          clear hbit stay hset hm hj hqb
          go_wp2
          go_roundw
          case rel => exact ⟨k + 1, by omega, by go_num, HE.out⟩
          case measure => simp [intOf]; omega
      · have d1 : decide (fr ≤ f.q) = false := decide_eq_false hq
        have HE := Lib.hid (STAY.out (by unfold markB; rw [d1]; rfl))
        clear stay hqb
        go_wp2
        go_roundw
        case rel => exact ⟨k + 1, by omega, by go_num, HE.out⟩
        case measure => simp [intOf]; omega
    · obtain rfl : k = n := by omega
      have HE : Hid (SdAt wr S s X (markL fr bits L) ∧ Step w S wr S) := by
        have h5 := HB.out.1
        have e : markK fr bits k L = markL fr bits L := by rw [HN.out]; exact markK_all fr bits L
        rw [e] at h5
        exact ⟨h5, HB.out.2.2, fun _ h => .inl h⟩
      go_wp2
      go_end0
      exact ⟨rfl, HE.out⟩
end
end Go.Proofs.Ytholdcgkhicdmaa
