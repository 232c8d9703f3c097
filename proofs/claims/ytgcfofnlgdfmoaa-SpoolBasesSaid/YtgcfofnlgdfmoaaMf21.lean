/- Several texts in one: SpLoop, SpLeast. -/
import Derived.Test.YtgcfofnlgdfmoaaMf20
/- Layer 8: the sizes of entries; the first of the least; the nearest of an origin. -/
namespace Go.Proofs.Ytgcfofnlgdfmoaa
open Go.RowKit

/-- entries at A, of a row from entry lo on -/
def RdE (w : World) (A : Option Addr) (L : List Ett) : Prop :=
  0 < L.length → ∃ b o, A = some ⟨b, o, none⟩ ∧ b < w.heap.size ∧ ∀ (k : Nat) e, L[k]? = some e → w.rangeAt b (o + k * 14) (entC e) ∧ w.rangeAt b (o + k * 14 + 1) (itC e.x e.A e.c)
def OkE (w : World) (L : List Ett) : Prop := ∀ e ∈ L, EntOk w (fun _ => False) e
theorem rangeAt_below {w w' : World} {b o : Nat} {cs : List Value} (h : w.rangeAt b o cs) (hb : b < w.heap.size) (hw : Below w.heap.size w w') : w'.rangeAt b o cs := fun j v hv => (hw.cell (p := ⟨b, o + j, none⟩) hb).trans (h j v hv)
theorem RdE.below {w w' : World} {A : Option Addr} {L : List Ett} (h : RdE w A L) (hb : Below w.heap.size w w') : RdE w' A L := fun h0 => by
  obtain ⟨b, o, e, hl, hc⟩ := h h0
  exact ⟨b, o, e, Nat.lt_of_lt_of_le hl hb.size, fun k x hx => ⟨rangeAt_below (hc k x hx).1 hl hb, rangeAt_below (hc k x hx).2 hl hb⟩⟩
theorem OkE.below {w w' : World} {L : List Ett} (h : OkE w L) (hb : Below w.heap.size w w') : OkE w' L := fun e he => (h e he).below hb

theorem act_put_no (a : Act) (v : Value) : a.put none v = a := rfl
theorem rangeAt_row {w : World} {g : Nat} {cs : List Value} {t : TypeId} {fr : Nat × Nat} (h : w.heap[g]? = some (.cells cs.toArray t fr)) (o : Nat) : w.rangeAt g o (cs.drop o) := fun j v hv => by
  rw [List.getElem?_drop] at hv
  simp [World.cell?, h, hv]
/-- a variable of the loop's own, which holds an entry -/
theorem boxE (W : World) (Z : Array Value) (e : Ett) : ∃ V, V = (W.alloc (.cells Z 68)).setRow W.heap.size (entC e).toArray ∧ V.heap[W.heap.size]? = some (.cells (entC e).toArray 68 (0, 0)) ∧ Below W.heap.size W V ∧
    V.rangeAt W.heap.size 1 (itC e.x e.A e.c) ∧ W.heap.size < V.heap.size := by
  have h := setRow_heap (W.alloc (.cells Z 68)) W.heap.size Z (entC e).toArray _ _ (heap_alloc_new _ _)
  refine ⟨_, rfl, h, below_setRow ((Below.refl _ _).alloc (Nat.le_refl _) _) (Nat.le_refl _) _, rangeAt_row h 1, (Array.getElem?_eq_some_iff.1 h).1⟩

set_option maxRecDepth 100000 in
set_option maxHeartbeats 1000000 in
theorem sizes_any (A : Option Addr) (n c : Nat) (L : List Ett) (w : World) (hn : n = L.length) (hm : n ≤ 100000) (hr : RdE w A L) (hok : OkE w L) :
    Calls Try.prog 61 #[.slice A n c] w fun e w' => e = .returned (.int .i64 (sumE L)) ∧ Below w.heap.size w w' := by
  have HN := Lib.hid hn
  have HR := Lib.hid hr
  have HO := Lib.hid hok
  clear hn hr hok
  go_enter Try.func61, Try.ntmps61
  go_wp2
  go_loopw [3, 8] (fun nv iv wx => ∃ k : Nat, k ≤ n ∧ iv = .int .i64 k ∧ nv = .int .i64 ((sumE (L.take k) : Nat) : Int) ∧ Hid (Below w.heap.size w wx)) (fun _ iv _ => n - (intOf iv).toNat)
  case atStart => exact ⟨0, Nat.zero_le _, rfl, rfl, Below.refl _ _⟩
  case round =>
    obtain ⟨k, hk, rfl, rfl, HB⟩ := hrel
    by_cases hlt : k < n
    · obtain ⟨e, he⟩ : ∃ e, L[k]? = some e := ⟨L[k]'(by rw [← HN.out]; exact hlt), List.getElem?_eq_getElem _⟩
      obtain ⟨b, o, rfl, hb, hc⟩ := HR.out (by rw [← HN.out]; omega)
      have hrg := rangeAt_below (hc k e he).1 hb HB.out
      have hq := (HO.out e (List.mem_iff_getElem?.2 ⟨k, he⟩)).below HB.out
      have He := Lib.hid he
      have HQ := Lib.hid hq
      clear hc he hq
      go_upto_region 5 with (first
        | (refine wpList_load_mid rfl _ _ rfl b (o + k * 14) rfl (entC e) _ hrg Try.underlying68 rfl Try.infoEn ?_)
        | (refine wpList_store_row rfl _ _ _ rfl wr.heap.size _ rfl rfl _ _ (heap_alloc_new _ _) Try.infoEn rfl (by simp [Value.oneCell', entC, itC]) ?_)
        | fail)
      obtain ⟨V, hV, -, hbV, hrV, -⟩ := boxE wr _ e
      rw [← hV, act_put_no]
      have hq2 := HQ.out.below hbV
      have HB2 := Lib.hid (HB.out.trans (hbV.mono HB.out.size))
      have hT := size_any e.x e.A e.x.l.length e.c hq2.ok hq2.sh rfl (by have := hq2.ln; omega) V (by have := hq2.lb; omega) hq2.rd
      have HT := Lib.hid hT
      have hs1 : sumE (L.take (k + 1)) = sumE (L.take k) + (itemB e.x).length := by
        rw [List.take_add_one, He.out, sumE_append]
        simp [sumE]
      have hs2 : sumE (L.take k) ≤ 100000 * k := by
        have := sumE_bound (L := L.take k) fun x hx => (HO.out x (List.mem_of_mem_take hx)).lb
        rw [List.length_take] at this
        omega
      obtain ⟨s0, hs0⟩ : ∃ s0, s0 = sumE (L.take k) := ⟨_, rfl⟩
      obtain ⟨z, hz⟩ : ∃ z, z = (itemB e.x).length := ⟨_, rfl⟩
      have hz2 := hq2.lb
      rw [← hs0] at hs1 hs2 ⊢
      rw [← hz] at hs1 hz2 HT
      have Hs1 := Lib.hid hs1
      have hw : IntKind.i64.wrap ((s0 : Int) + (z : Int)) = ((s0 + z : Nat) : Int) := by rw [IntKind.wrap_i64]; omega
      clear hV hbV hq2 hT hs0 hz hrg HQ HB hs1
      go_wp2_with (first | (refine wpList_load_mid rfl _ _ rfl wr.heap.size 1 rfl (itC e.x e.A e.c) _ hrV Try.underlying60 rfl Try.infoIt ?_) | fail)
      refine HT.out.mono ?_
      rintro e' w4 ⟨rfl, hb4⟩
      have HB4 := Lib.hid (HB2.out.trans (hb4.mono HB2.out.size))
      clear hb4 hrV HT
      go_wp2
      go_roundw
      case rel => exact ⟨k + 1, by omega, by go_num, by rw [Hs1.out, Int.natCast_add], HB4.out⟩
      case measure => simp [intOf]; omega
    · obtain rfl : k = n := by omega
      rw [List.take_of_length_le (by rw [← HN.out]; exact Nat.le_refl _)]
      go_wp2
      go_ret
      exact ⟨rfl, HB.out⟩
end Go.Proofs.Ytgcfofnlgdfmoaa
/- Layer 8: the first of the events with the lowest priority; the nearest item of an origin. -/
namespace Go.Proofs.Ytgcfofnlgdfmoaa
open Go.RowKit

def prioE (L : List Ett) (f : Nat) : Nat := (L[f]?.map fun e => e.x.p).getD 0
def leastK (L : List Ett) : Nat → Option Nat
  | 0 => none
  | k + 1 => match L[k]? with
    | none => leastK L k
    | some e => if lastB e.x then leastK L k else match leastK L k with
      | none => some k
      | some f => if e.x.p < prioE L f then some k else some f
def idxV : Option Nat → Value
  | none => .int .i64 (-1)
  | some k => .int .i64 k
theorem leastK_some {L : List Ett} : ∀ {k f : Nat}, leastK L k = some f → f < k ∧ ∃ e, L[f]? = some e ∧ lastB e.x = false
  | 0, f, h => by simp [leastK] at h
  | k + 1, f, h => by
    unfold leastK at h
    cases he : L[k]? with
    | none => rw [he] at h; have := leastK_some (k := k) h; exact ⟨by omega, this.2⟩
    | some e =>
      rw [he] at h
      simp only at h
      by_cases hl : lastB e.x = true
      · rw [if_pos hl] at h; have := leastK_some (k := k) h; exact ⟨by omega, this.2⟩
      · rw [if_neg hl] at h
        have hl : lastB e.x = false := by simpa using hl
        cases hf : leastK L k with
        | none => rw [hf] at h; simp at h; subst h; exact ⟨by omega, e, he, hl⟩
        | some f' =>
          rw [hf] at h
          simp only at h
          by_cases hp : e.x.p < prioE L f'
          · rw [if_pos hp] at h; simp at h; subst h; exact ⟨by omega, e, he, hl⟩
          · rw [if_neg hp] at h; simp at h; subst h; have := leastK_some (k := k) hf; exact ⟨by omega, this.2⟩
theorem SpAt.rows {w : World} {S : Nat → Prop} {s : Nat} {X : Sp} {L : List Ett} (_ : SpAt w S s X L) {v : Value} (h2 : SpR w S s v L) : ∃ A c, v = .slice A L.length c ∧ (0 < L.length → ∃ b, A = some ⟨b, 0, none⟩ ∧ b < w.heap.size ∧ ∀ (k : Nat) e, L[k]? = some e → w.rangeAt b (k * 14) (entC e) ∧ w.rangeAt b (k * 14 + 1) (itC e.x e.A e.c)) := by
  by_cases h0 : 0 < L.length
  · obtain ⟨b, c, hv, hb, _⟩ := h2.at_ (List.getElem?_eq_getElem h0)
    refine ⟨_, c, hv, fun _ => ⟨b, rfl, hb, fun k e hk => ?_⟩⟩
    obtain ⟨b', c', hv', _, _, _, q1, q2⟩ := h2.at_ hk
    rw [hv] at hv'
    injection hv' with hv'
    injection hv' with hv'
    have e : b = b' := congrArg Addr.block hv'
    subst e
    exact ⟨q1, q2⟩
  · have hl : L.length = 0 := by omega
    obtain ⟨A, c, hv⟩ := own_slice h2.own
    exact ⟨A, c, hv, fun h => absurd h h0⟩

set_option maxRecDepth 100000 in
set_option maxHeartbeats 1000000 in
theorem least_any {S : Nat → Prop} {s : Nat} {X : Sp} {L : List Ett} (w : World) (h : SpAt w S s X L) :
    Calls Try.prog 79 #[.pointer (some ⟨s, 0, none⟩)] w fun e w' => e = .returned (idxV (leastK L L.length)) ∧ Below w.heap.size w w' := by
  obtain ⟨v, h1, h2⟩ := h.sp
  obtain ⟨A, c, rfl, hrow⟩ := h.rows h2
  obtain ⟨n, hn⟩ : ∃ n, n = L.length := ⟨_, rfl⟩
  have hfew := h.few
  rw [← hn] at h1 hrow hfew ⊢
  have c37 := h1.c37
  have HN := Lib.hid hn
  have HR := Lib.hid hrow
  have HC : Hid (∀ W, Below w.heap.size w W → W.cell? ⟨s, 37, none⟩ = some (.slice A n c)) := fun W hW => (hW.cell (p := ⟨s, 37, none⟩) h1.slt).trans h1.c37
  have HE : Hid (∀ e ∈ L, e.x.p < 256) := fun e he => (h.ent e he).ok.p
  clear hn hrow h1 h2 h
  go_enter Try.func79, Try.ntmps79
  go_wp2
  clear c37
  go_loopw [3, 12] (fun fv iv wx => ∃ k : Nat, k ≤ n ∧ iv = .int .i64 k ∧ fv = idxV (leastK L k) ∧ Hid (Below w.heap.size w wx)) (fun _ iv _ => n - (intOf iv).toNat)
  case atStart => exact ⟨0, Nat.zero_le _, rfl, rfl, Below.refl _ _⟩
  case round =>
    obtain ⟨k, hk, rfl, rfl, HB⟩ := hrel
    by_cases hlt : k < n
    · obtain ⟨e, he⟩ : ∃ e, L[k]? = some e := ⟨L[k]'(by rw [← HN.out]; exact hlt), List.getElem?_eq_getElem _⟩
      obtain ⟨b, rfl, hb, hc⟩ := HR.out (by omega)
      have hrg := rangeAt_below (hc k e he).1 hb HB.out
      have He := Lib.hid he
      have hnext : leastK L (k + 1) = if lastB e.x then leastK L k else match leastK L k with
        | none => some k
        | some f => if e.x.p < prioE L f then some k else some f := by rw [leastK, he]
      have Hnext := Lib.hid hnext
      clear he hnext
      go_upto_region 5 with (first
        | (refine wpList_load_mid rfl _ _ rfl b (k * 14) rfl (entC e) _ hrg Try.underlying68 rfl Try.infoEn ?_)
        | (refine wpList_store_row rfl _ _ _ rfl wr.heap.size _ rfl rfl _ _ (heap_alloc_new _ _) Try.infoEn rfl (by simp [Value.oneCell', entC, itC]) ?_)
        | fail)
      obtain ⟨V, hV, -, hbV, hrV, -⟩ := boxE wr _ e
      rw [← hV, act_put_no]
      have HB2 := Lib.hid (HB.out.trans (hbV.mono HB.out.size))
      have x8 : V.cell? ⟨wr.heap.size, 8, none⟩ = some (.int .u8 e.x.p) := hrV 7 _ rfl
      have X8 := Lib.hid x8
      clear hV hbV hrg x8
      go_wp2_with (first | (refine wpList_load_mid rfl _ _ rfl wr.heap.size 1 rfl (itC e.x e.A e.c) _ hrV Try.underlying60 rfl Try.infoIt ?_) | fail)
      refine (lasts_any e.x e.A e.x.l.length e.c V).mono ?_
      rintro e' w4 ⟨rfl, hb4⟩
      have hV0 : wr.heap.size < V.heap.size := World.block_lt_of_cell? V _ X8.out
      have x8 := (hb4.cell (p := ⟨wr.heap.size, 8, none⟩) hV0).trans X8.out
      have HB4 := Lib.hid (HB2.out.trans (hb4.mono HB2.out.size))
      clear hb4 hrV hV0
      by_cases hl : lastB e.x = true
      · rw [hl]
        go_wp2
        go_roundw
        case rel => exact ⟨k + 1, by omega, by go_num, by rw [Hnext.out, if_pos hl], HB4.out⟩
        case measure => simp [intOf]; omega
      · have hl : lastB e.x = false := by simpa using hl
        have hl2 : ¬ lastB e.x = true := by rw [hl]; decide
        rw [hl]
        cases hf : leastK L k with
        | none =>
          rw [hf] at Hnext
          unfold idxV
          go_wp2
          go_quiet (fail)
          go_wp2
          go_roundw
          case rel => exact ⟨k + 1, by omega, by go_num, by rw [Hnext.out, if_neg hl2]; rfl, cbelow_drewN HB4.out _⟩
          case measure => simp [intOf]; omega
        | some f =>
          obtain ⟨hfk, ef, hef, -⟩ := leastK_some hf
          obtain ⟨b2, hb2, -, hc2⟩ := HR.out (by omega)
          injection hb2 with hb2
          have hb2 : b = b2 := congrArg Addr.block hb2
          subst hb2
          have y8 := (HB4.out.cell (p := ⟨b, f * 14 + 8, none⟩) hb).trans ((hc2 f ef hef).1 8 _ rfl)
          have c37 := HC.out w4 HB4.out
          have hp : prioE L f = ef.x.p := by unfold prioE; rw [hef]; rfl
          have Hn2 : Hid (leastK L (k + 1) = if e.x.p < ef.x.p then some k else some f) := by
            show _ = _
            rw [Hnext.out, if_neg hl2, hf]
            simp only
            rw [hp]
          have d1 : decide ((f : Int) < 0) = false := decide_eq_false (by omega)
          clear hc2 hef hp hf
          by_cases hlt2 : e.x.p < ef.x.p
          · have d2 : decide ((e.x.p : Int) < (ef.x.p : Int)) = true := decide_eq_true (by omega)
            unfold idxV
            go_wp2
            go_quiet (fail)
            go_wp2
            go_roundw
            case rel => exact ⟨k + 1, by omega, by go_num, by rw [Hn2.out, if_pos hlt2]; rfl, cbelow_drewN HB4.out _⟩
            case measure => simp [intOf]; omega
          · have d2 : decide ((e.x.p : Int) < (ef.x.p : Int)) = false := decide_eq_false (by omega)
            unfold idxV
            go_wp2
            go_quiet (fail)
            go_wp2
            go_roundw
            case rel => exact ⟨k + 1, by omega, by go_num, by rw [Hn2.out, if_neg hlt2]; rfl, cbelow_drewN HB4.out _⟩
            case measure => simp [intOf]; omega
    · obtain rfl : k = n := by omega
      go_wp2
      go_ret
      exact ⟨rfl, HB.out⟩

def nextK (L : List Ett) (o k : Nat) : Option Nat := if h : k < L.length then (if spO L[k].x = o then some k else nextK L o (k + 1)) else none
termination_by L.length - k
def prevK (L : List Ett) (o : Nat) : Nat → Option Nat
  | 0 => none
  | k + 1 => if (L[k]?.map fun e => spO e.x) = some o then some k else prevK L o k
theorem nextK_end {L : List Ett} {o k : Nat} (h : L.length ≤ k) : nextK L o k = none := by
  unfold nextK
  rw [dif_neg (by omega)]
theorem nextK_at {L : List Ett} {o k : Nat} {e : Ett} (h : L[k]? = some e) : nextK L o k = if spO e.x = o then some k else nextK L o (k + 1) := by
  obtain ⟨h1, h2⟩ := List.getElem?_eq_some_iff.1 h
  conv => lhs; unfold nextK
  rw [dif_pos h1, h2]
theorem prevK_at {L : List Ett} {o k : Nat} {e : Ett} (h : L[k]? = some e) : prevK L o (k + 1) = if spO e.x = o then some k else prevK L o k := by
  conv => lhs; unfold prevK
  rw [h]
  simp

set_option maxRecDepth 100000 in
set_option maxHeartbeats 1000000 in
theorem near_up {S : Nat → Prop} {s p : Nat} {X : Sp} {L : List Ett} {e0 : Ett} (w : World) (h : SpAt w S s X L) (hp : L[p]? = some e0) :
    Calls Try.prog 82 #[.pointer (some ⟨s, 0, none⟩), .int .i64 p, .int .i64 1] w fun e w' => e = .returned (idxV (nextK L (spO e0.x) (p + 1))) ∧ Below w.heap.size w w' := by
  obtain ⟨v, h1, h2⟩ := h.sp
  obtain ⟨A, c, rfl, hrow⟩ := h.rows h2
  obtain ⟨n, hn⟩ : ∃ n, n = L.length := ⟨_, rfl⟩
  have hpl := (List.getElem?_eq_some_iff.1 hp).1
  have hfew := h.few
  rw [← hn] at h1 hrow hfew hpl
  obtain ⟨b, rfl, hb, hc⟩ := hrow (by omega)
  have c37 := h1.c37
  have hrg := (hc p e0 hp).2
  have HN := Lib.hid hn
  have HR := Lib.hid hc
  have HC : Hid (∀ W, Below w.heap.size w W → W.cell? ⟨s, 37, none⟩ = some (.slice (some ⟨b, 0, none⟩) n c)) := fun W hW => (hW.cell (p := ⟨s, 37, none⟩) h1.slt).trans h1.c37
  have hw1 : IntKind.i64.wrap ((p : Int) + 1) = ((p + 1 : Nat) : Int) := by rw [IntKind.wrap_i64]; omega
  clear hn hrow h1 h2 h hc hp
  go_enter Try.func82, Try.ntmps82
  go_wp2_with (first | (refine wpList_load_mid rfl _ _ rfl b (p * 14 + 1) rfl (itC e0.x e0.A e0.c) _ hrg Try.underlying60 rfl Try.infoIt ?_) | fail)
  refine (span_any e0.x e0.A e0.x.l.length e0.c w).mono ?_
  rintro e w1 ⟨rfl, hb1⟩
  have HB1 := Lib.hid hb1
  clear hb1 hrg c37
  go_wp2
  go_loopw [10] (fun av wx => ∃ k : Nat, p + 1 ≤ k ∧ k ≤ n ∧ av = .int .i64 k ∧ nextK L (spO e0.x) (p + 1) = nextK L (spO e0.x) k ∧ Hid (Below w.heap.size w wx)) (fun av _ => n - (intOf av).toNat)
  case atStart => exact ⟨p + 1, Nat.le_refl _, by omega, rfl, rfl, HB1.out⟩
  case round =>
    obtain ⟨k, hpk, hk, rfl, hnx, HB⟩ := hrel
    have Hnx := Lib.hid hnx
    have c37 := HC.out _ HB.out
    have d0 : decide ((0 : Int) ≤ (k : Int)) = true := decide_eq_true (by omega)
    clear hnx
    by_cases hlt : k < n
    · obtain ⟨e, he⟩ : ∃ e, L[k]? = some e := ⟨L[k]'(by rw [← HN.out]; exact hlt), List.getElem?_eq_getElem _⟩
      have hrg := rangeAt_below (HR.out k e he).2 hb HB.out
      have Hat := Lib.hid (nextK_at (o := spO e0.x) he)
      have d1 : decide ((k : Int) < (n : Int)) = true := decide_eq_true (by omega)
      clear he
      go_wp2_with (first | (refine wpList_load_mid rfl _ _ rfl b (k * 14 + 1) rfl (itC e.x e.A e.c) _ hrg Try.underlying60 rfl Try.infoIt ?_) | fail)
      refine (span_any e.x e.A e.x.l.length e.c wr).mono ?_
      rintro e' w4 ⟨rfl, hb4⟩
      have HB4 := Lib.hid (HB.out.trans (hb4.mono HB.out.size))
      clear hb4 hrg c37
      by_cases ho : spO e.x = spO e0.x
      · have d2 : ((spO e.x : Int) == (spO e0.x : Int)) = true := by simp [ho]
        go_wp2
        go_ret
        exact ⟨by rw [Hnx.out, Hat.out, if_pos ho]; rfl, HB4.out⟩
      · have d2 : ((spO e.x : Int) == (spO e0.x : Int)) = false := by simp; omega
        go_wp2
        go_roundw
        case rel => exact ⟨k + 1, by omega, by omega, by go_num, by rw [Hnx.out, Hat.out, if_neg ho], HB4.out⟩
        case measure => simp [intOf]; omega
    · obtain rfl : k = n := by omega
      have d1 : decide ((k : Int) < (k : Int)) = false := decide_eq_false (by omega)
      go_wp2
      go_ret
      exact ⟨by rw [Hnx.out, nextK_end (by rw [← HN.out]; exact Nat.le_refl _)]; rfl, HB.out⟩

set_option maxRecDepth 100000 in
set_option maxHeartbeats 1000000 in
theorem near_down {S : Nat → Prop} {s p : Nat} {X : Sp} {L : List Ett} {e0 : Ett} (w : World) (h : SpAt w S s X L) (hp : L[p]? = some e0) :
    Calls Try.prog 82 #[.pointer (some ⟨s, 0, none⟩), .int .i64 p, .int .i64 (-1)] w fun e w' => e = .returned (idxV (prevK L (spO e0.x) p)) ∧ Below w.heap.size w w' := by
  obtain ⟨v, h1, h2⟩ := h.sp
  obtain ⟨A, c, rfl, hrow⟩ := h.rows h2
  obtain ⟨n, hn⟩ : ∃ n, n = L.length := ⟨_, rfl⟩
  have hpl := (List.getElem?_eq_some_iff.1 hp).1
  have hfew := h.few
  rw [← hn] at h1 hrow hfew hpl
  obtain ⟨b, rfl, hb, hc⟩ := hrow (by omega)
  have c37 := h1.c37
  have hrg := (hc p e0 hp).2
  have HN := Lib.hid hn
  have HR := Lib.hid hc
  have HC : Hid (∀ W, Below w.heap.size w W → W.cell? ⟨s, 37, none⟩ = some (.slice (some ⟨b, 0, none⟩) n c)) := fun W hW => (hW.cell (p := ⟨s, 37, none⟩) h1.slt).trans h1.c37
  have hw1 : IntKind.i64.wrap ((p : Int) + -1) = (p : Int) - 1 := by rw [IntKind.wrap_i64]; omega
  clear hn hrow h1 h2 h hc hp
  go_enter Try.func82, Try.ntmps82
  go_wp2_with (first | (refine wpList_load_mid rfl _ _ rfl b (p * 14 + 1) rfl (itC e0.x e0.A e0.c) _ hrg Try.underlying60 rfl Try.infoIt ?_) | fail)
  refine (span_any e0.x e0.A e0.x.l.length e0.c w).mono ?_
  rintro e w1 ⟨rfl, hb1⟩
  have HB1 := Lib.hid hb1
  clear hb1 hrg c37
  go_wp2
  go_loopw [10] (fun av wx => ∃ k : Nat, k ≤ p ∧ av = .int .i64 ((k : Int) - 1) ∧ prevK L (spO e0.x) p = prevK L (spO e0.x) k ∧ Hid (Below w.heap.size w wx)) (fun av _ => (intOf av + 1).toNat)
  case atStart => exact ⟨p, Nat.le_refl _, rfl, rfl, HB1.out⟩
  case round =>
    obtain ⟨k, hpk, rfl, hnx, HB⟩ := hrel
    have Hnx := Lib.hid hnx
    have c37 := HC.out _ HB.out
    clear hnx
    cases k with
    | succ k =>
      have d0 : decide ((0 : Int) ≤ (k : Int)) = true := decide_eq_true (by omega)
      have hk1 : ((k + 1 : Nat) : Int) - 1 = (k : Int) := by omega
      rw [hk1]
      obtain ⟨e, he⟩ : ∃ e, L[k]? = some e := ⟨L[k]'(by rw [← HN.out]; omega), List.getElem?_eq_getElem _⟩
      have hrg := rangeAt_below (HR.out k e he).2 hb HB.out
      have Hat := Lib.hid (prevK_at (o := spO e0.x) he)
      have d1 : decide ((k : Int) < (n : Int)) = true := decide_eq_true (by omega)
      have hw2 : IntKind.i64.wrap ((k : Int) + -1) = (k : Int) - 1 := by rw [IntKind.wrap_i64]; omega
      clear he hk1
      go_wp2_with (first | (refine wpList_load_mid rfl _ _ rfl b (k * 14 + 1) rfl (itC e.x e.A e.c) _ hrg Try.underlying60 rfl Try.infoIt ?_) | fail)
      refine (span_any e.x e.A e.x.l.length e.c wr).mono ?_
      rintro e' w4 ⟨rfl, hb4⟩
      have HB4 := Lib.hid (HB.out.trans (hb4.mono HB.out.size))
      clear hb4 hrg c37
      by_cases ho : spO e.x = spO e0.x
      · have d2 : ((spO e.x : Int) == (spO e0.x : Int)) = true := by simp [ho]
        go_wp2
        go_ret
        exact ⟨by rw [Hnx.out, Hat.out, if_pos ho]; rfl, HB4.out⟩
      · have d2 : ((spO e.x : Int) == (spO e0.x : Int)) = false := by simp; omega
        go_wp2
        go_roundw
        case rel => exact ⟨k, by omega, by go_num, by rw [Hnx.out, Hat.out, if_neg ho], HB4.out⟩
        case measure => simp [intOf]
    | zero =>
      have d0 : decide ((0 : Int) ≤ ((0 : Nat) : Int) - 1) = false := by decide
      go_wp2
      go_ret
      exact ⟨by rw [Hnx.out]; rfl, HB.out⟩
end Go.Proofs.Ytgcfofnlgdfmoaa
