/- Several texts in one: SpJoin. -/
import Derived.Test.YtgcfofnlgdfmoaaMf25
/- Layer 8: join: two gaps of the row become one. -/
namespace Go.Proofs.Ytgcfofnlgdfmoaa
open Go.RowKit

theorem joinI_short (x y : It) : ShortI (joinI x y) := by
  unfold joinI
  split <;> exact ⟨(Nat.zero_le 1048576 : 0 ≤ 1048576), fun i p hp => by simp [zeroI] at hp⟩
theorem join_C (x y : It) (hy : OkI y) (A : Option Addr) (n c : Nat) (A2 : Option Addr) (n2 c2 : Nat) (w : World) :
    Calls Try.prog 105 #[.agg #[.bool x.g, .int .u8 x.o, .int .u64 x.q, .int .u64 x.t, .string x.r, .slice A n c, .int .u8 x.s, .int .u8 x.p, .int .i64 x.v, .int .u8 x.w, .int .u8 x.ga, .int .u64 x.gf, .int .u64 x.gt], .agg #[.bool y.g, .int .u8 y.o, .int .u64 y.q, .int .u64 y.t, .string y.r, .slice A2 n2 c2, .int .u8 y.s, .int .u8 y.p, .int .i64 y.v, .int .u8 y.w, .int .u8 y.ga, .int .u64 y.gf, .int .u64 y.gt]] w fun e w' => e = .returned (.tuple #[.agg (itC (joinI x y) none 0).toArray, .bool (joinB x y)]) ∧ Below w.heap.size w w' := by
  refine (join_new x y hy A n c A2 n2 c2 w).mono ?_
  rintro e w' ⟨h1, h2⟩
  refine ⟨?_, h2⟩
  rw [h1]
  have e1 : (joinI x y).l.length = 0 := by rw [joinI_l]; rfl
  unfold itC
  rw [e1]
set_option maxRecDepth 100000 in
set_option maxHeartbeats 400000 in
theorem sjoin_none1 (v : Value) (z : Int) (w : World) :
    Calls Try.prog 81 #[v, .int .i64 (-1), .int .i64 z] w fun e w' => e = .returned (.bool false) ∧ w = w' := by
  go_enter Try.func81, Try.ntmps81
  go_wp2
  go_ret
  exact ⟨rfl, rfl⟩
set_option maxRecDepth 100000 in
set_option maxHeartbeats 400000 in
theorem sjoin_none2 (v : Value) (k : Nat) (w : World) :
    Calls Try.prog 81 #[v, .int .i64 k, .int .i64 (-1)] w fun e w' => e = .returned (.bool false) ∧ w = w' := by
  have d1 : decide ((k : Int) < 0) = false := decide_eq_false (by omega)
  go_enter Try.func81, Try.ntmps81
  go_wp2
  go_ret
  exact ⟨rfl, rfl⟩
/-- the row with the gaps of two places joined in the first -/
def joinL (L : List Ett) (a b : Nat) (ea eb : Ett) : List Ett := cutE (L.set a ⟨ea.i, joinI ea.x eb.x, none, 0⟩) b (b + 1)

set_option maxRecDepth 100000 in
set_option maxHeartbeats 2000000 in
theorem sjoin_any {S : Nat → Prop} {s a b : Nat} {X : Sp} {L : List Ett} {ea eb : Ett} (w : World) (h : SpAt w S s X L) (ha : L[a]? = some ea) (hb : L[b]? = some eb) (hy : OkI (joinI ea.x eb.x)) (hz : (itemB (joinI ea.x eb.x)).length ≤ 100000) :
    Calls Try.prog 81 #[.pointer (some ⟨s, 0, none⟩), .int .i64 a, .int .i64 b] w fun e w' => e = .returned (.bool (joinB ea.x eb.x)) ∧ SpAt w' S s X (if joinB ea.x eb.x then joinL L a b ea eb else L) ∧ Step w S w' S := by
  obtain ⟨v, h1, h2⟩ := h.sp
  obtain ⟨r, c, rfl, hr, hrs, hrS, hr0, hr1⟩ := h2.at_ ha
  obtain ⟨r', c', hv', _, _, _, _, hr2⟩ := h2.at_ hb
  injection hv' with hv'
  injection hv' with hv'
  have e : r = r' := congrArg Addr.block hv'
  subst e
  clear hv' hr0
  obtain ⟨n, hn⟩ : ∃ n, n = L.length := ⟨_, rfl⟩
  have hal := (List.getElem?_eq_some_iff.1 ha).1
  have hbl := (List.getElem?_eq_some_iff.1 hb).1
  have hfew := h.few
  have hsl := h1.slt
  rw [← hn] at hfew hal hbl h1
  have d1 : decide ((a : Int) < 0) = false := decide_eq_false (by omega)
  have d2 : decide ((b : Int) < 0) = false := decide_eq_false (by omega)
  have HC37 : Hid (∀ W, Below w.heap.size w W → W.cell? ⟨s, 37, none⟩ = some (.slice (some ⟨r, 0, none⟩) n c)) := fun W hW => (hW.cell (p := ⟨s, 37, none⟩) hsl).trans h1.c37
  have HRA : Hid (∀ W, Below w.heap.size w W → W.rangeAt r (a * 14 + 1) (itC ea.x ea.A ea.c)) := fun W hW => rangeAt_below hr1 hr hW
  have HRB : Hid (∀ W, Below w.heap.size w W → W.rangeAt r (b * 14 + 1) (itC eb.x eb.A eb.c)) := fun W hW => rangeAt_below hr2 hr hW
  have HH := Lib.hid h
  have HA := Lib.hid ha
  have HB := Lib.hid hb
  have HOB := Lib.hid (h.ent eb (List.mem_iff_getElem?.2 ⟨b, hb⟩)).ok
  have HIX := Lib.hid (h.ent ea (List.mem_iff_getElem?.2 ⟨a, ha⟩)).ix
  have HN := Lib.hid hn
  have HY := Lib.hid hy
  have HZ := Lib.hid hz
  clear h1 h2 h hn ha hb hr1 hr2 hy hz
  go_enter Try.func81, Try.ntmps81
  go_upto_region 3 with fail
  go_cut [7, 8] (fun p q wx => ∃ Y, p = .pointer (some ⟨Y, 0, none⟩) ∧ q = .bool (joinB ea.x eb.x) ∧ Hid (Below w.heap.size w wx) ∧ Hid (w.heap.size ≤ Y) ∧ Hid (wx.heap[Y]? = some (.cells (itC (joinI ea.x eb.x) none 0).toArray 60 (0, 0))))
  case first =>
    refine wp_region_noPanic ?_
    refine wp_region_held_drew (S := fun W => Below w.heap.size w W) (by kernel_rfl) ?_ (fun hHeld => ?_)
    · exact (RowKit.Below.refl _ _).drew
    refine heldTake (i := 0) (v := ?_) rfl (by kernel_rfl) (by kernel_rfl) (by kernel_rfl) (fun _ _ _ h => h) (Or.inl ⟨by rfl, ?_⟩) (by assumption) ?_
    rotate_left
    · (intro W hSw; (try dsimp only at hSw); have f2 := HC37.out W hSw; go_simp; try with_reducible rfl)
    try simp only [heldPut, List.set]
    refine heldTake (i := 1) (v := ?_) rfl (by kernel_rfl) (by kernel_rfl) (by kernel_rfl) (fun _ _ _ h => h) (Or.inl ⟨by rfl, ?_⟩) (by assumption) ?_
    rotate_left
    · (intro W hSw; (try dsimp only at hSw); have f2 := HC37.out W hSw; go_simp; try with_reducible rfl)
    try simp only [heldPut, List.set]
    refine heldTake (i := 2) (v := ?_) rfl (by kernel_rfl) (by kernel_rfl) (by kernel_rfl) (fun _ _ _ h => h) (Or.inl ⟨by rfl, ?_⟩) (by assumption) ?_
    rotate_left
    · (intro W hSw; (try dsimp only at hSw); have f2 := HC37.out W hSw; go_simp; try with_reducible rfl)
    try simp only [heldPut, List.set]
    refine heldTake (i := 3) (v := ?_) rfl (by kernel_rfl) (by kernel_rfl) (by kernel_rfl) (fun _ _ _ h => h) (Or.inl ⟨by rfl, ?_⟩) (by assumption) ?_
    rotate_left
    · (intro W hSw; (try dsimp only at hSw); have f2 := HC37.out W hSw; go_simp; try with_reducible rfl)
    try simp only [heldPut, List.set]
    refine heldTake (i := 4) (v := ?_) rfl (by kernel_rfl) (by kernel_rfl) (by kernel_rfl) (fun _ _ _ h => h) (Or.inl ⟨by rfl, ?_⟩) (by assumption) ?_
    rotate_left
    · (intro W hSw; (try dsimp only at hSw); have f2 := HC37.out W hSw; go_simp; try with_reducible rfl)
    try simp only [heldPut, List.set]
    refine heldTake (i := 5) (v := ?_) rfl (by kernel_rfl) (by kernel_rfl) (by kernel_rfl) (fun _ _ _ h => h) (Or.inl ⟨by rfl, ?_⟩) (by assumption) ?_
    rotate_left
    · (intro W hSw; (try dsimp only at hSw); have f2 := HC37.out W hSw; go_simp; try with_reducible rfl)
    try simp only [heldPut, List.set]
    refine heldTake (i := 6) (v := ?_) rfl (by kernel_rfl) (by kernel_rfl) (by kernel_rfl) (fun _ _ _ h => h) (Or.inl ⟨by rfl, ?_⟩) (by assumption) ?_
    rotate_left
    · (intro W hSw; (try dsimp only at hSw); have f2 := HC37.out W hSw; go_simp; try with_reducible rfl)
    try simp only [heldPut, List.set]
    refine heldTake (i := 7) (v := ?_) rfl (by kernel_rfl) (by kernel_rfl) (by kernel_rfl) (fun _ _ _ h => h) (Or.inl ⟨by rfl, ?_⟩) (by assumption) ?_
    rotate_left
    · (intro W hSw; (try dsimp only at hSw); have f2 := HC37.out W hSw; go_simp; try with_reducible rfl)
    try simp only [heldPut, List.set]
    refine heldTake (i := 8) (v := .agg (itC ea.x ea.A ea.c).toArray) rfl (by kernel_rfl) (by kernel_rfl) (by kernel_rfl) (fun _ _ _ h => h) (Or.inl ⟨by rfl, ?_⟩) (by assumption) ?_
    · (intro W hSw; exact exec_load_mid 60 _ rfl r (a * 14 + 1) rfl _ _ (HRA.out W hSw) Try.underlying60 rfl Try.infoIt)
    try simp only [heldPut, List.set]
    refine heldTake (i := 9) (v := ?_) rfl (by kernel_rfl) (by kernel_rfl) (by kernel_rfl) (fun _ _ _ h => h) (Or.inl ⟨by rfl, ?_⟩) (by assumption) ?_
    rotate_left
    · (intro W hSw; (try dsimp only at hSw); have f2 := HC37.out W hSw; go_simp; try with_reducible rfl)
    try simp only [heldPut, List.set]
    refine heldTake (i := 10) (v := ?_) rfl (by kernel_rfl) (by kernel_rfl) (by kernel_rfl) (fun _ _ _ h => h) (Or.inl ⟨by rfl, ?_⟩) (by assumption) ?_
    rotate_left
    · (intro W hSw; (try dsimp only at hSw); have f2 := HC37.out W hSw; go_simp; try with_reducible rfl)
    try simp only [heldPut, List.set]
    refine heldTake (i := 11) (v := ?_) rfl (by kernel_rfl) (by kernel_rfl) (by kernel_rfl) (fun _ _ _ h => h) (Or.inl ⟨by rfl, ?_⟩) (by assumption) ?_
    rotate_left
    · (intro W hSw; (try dsimp only at hSw); have f2 := HC37.out W hSw; go_simp; try with_reducible rfl)
    try simp only [heldPut, List.set]
    refine heldTake (i := 12) (v := ?_) rfl (by kernel_rfl) (by kernel_rfl) (by kernel_rfl) (fun _ _ _ h => h) (Or.inl ⟨by rfl, ?_⟩) (by assumption) ?_
    rotate_left
    · (intro W hSw; (try dsimp only at hSw); have f2 := HC37.out W hSw; go_simp; try with_reducible rfl)
    try simp only [heldPut, List.set]
    refine heldTake (i := 13) (v := ?_) rfl (by kernel_rfl) (by kernel_rfl) (by kernel_rfl) (fun _ _ _ h => h) (Or.inl ⟨by rfl, ?_⟩) (by assumption) ?_
    rotate_left
    · (intro W hSw; (try dsimp only at hSw); have f2 := HC37.out W hSw; go_simp; try with_reducible rfl)
    try simp only [heldPut, List.set]
    refine heldTake (i := 14) (v := ?_) rfl (by kernel_rfl) (by kernel_rfl) (by kernel_rfl) (fun _ _ _ h => h) (Or.inl ⟨by rfl, ?_⟩) (by assumption) ?_
    rotate_left
    · (intro W hSw; (try dsimp only at hSw); have f2 := HC37.out W hSw; go_simp; try with_reducible rfl)
    try simp only [heldPut, List.set]
    refine heldTake (i := 15) (v := ?_) rfl (by kernel_rfl) (by kernel_rfl) (by kernel_rfl) (fun _ _ _ h => h) (Or.inl ⟨by rfl, ?_⟩) (by assumption) ?_
    rotate_left
    · (intro W hSw; (try dsimp only at hSw); have f2 := HC37.out W hSw; go_simp; try with_reducible rfl)
    try simp only [heldPut, List.set]
    refine heldTake (i := 16) (v := ?_) rfl (by kernel_rfl) (by kernel_rfl) (by kernel_rfl) (fun _ _ _ h => h) (Or.inl ⟨by rfl, ?_⟩) (by assumption) ?_
    rotate_left
    · (intro W hSw; (try dsimp only at hSw); have f2 := HC37.out W hSw; go_simp; try with_reducible rfl)
    try simp only [heldPut, List.set]
    refine heldTake (i := 17) (v := .agg (itC eb.x eb.A eb.c).toArray) rfl (by kernel_rfl) (by kernel_rfl) (by kernel_rfl) (fun _ _ _ h => h) (Or.inl ⟨by rfl, ?_⟩) (by assumption) ?_
    · (intro W hSw; exact exec_load_mid 60 _ rfl r (b * 14 + 1) rfl _ _ (HRB.out W hSw) Try.underlying60 rfl Try.infoIt)
    try simp only [heldPut, List.set]
    generalize hw2 : w.drew = w2 at *
    clear hw2
    refine heldTwo (i := 18) (j := 22) rfl rfl (by kernel_rfl) (fun K hK => ?gA) (fun K hK => ?gB)
    case' gA =>
      go_simp
      refine (join_C ea.x eb.x HOB.out ea.A ea.x.l.length ea.c eb.A eb.x.l.length eb.c _).mono ?_
      rintro e V ⟨rfl, hb2⟩
      go_wp2_with fail
      refine hK.out _ _ ?_ (fun hh2 => ?_)
      · exact hHeld.trans (hb2.mono hHeld.size)
      clear hK K
      try simp only [heldPut, List.set]
      refine heldTake (i := 19) (v := ?_) rfl (by kernel_rfl) (by kernel_rfl) (by kernel_rfl) (fun _ _ _ h => h) (Or.inl ⟨by rfl, ?_⟩) (by assumption) ?_
      rotate_left
      · (intro W hSw; (try dsimp only at hSw);  go_simp; try with_reducible rfl)
      try simp only [heldPut, List.set]
      refine heldTake (i := 20) (v := ?_) rfl (by kernel_rfl) (by kernel_rfl) (by kernel_rfl) (fun _ _ _ h => h) (Or.inl ⟨by rfl, ?_⟩) (by assumption) ?_
      rotate_left
      · (intro W hSw; (try dsimp only at hSw);  go_simp; try with_reducible rfl)
      try simp only [heldPut, List.set]
      refine heldTake (i := 21) (v := ?_) rfl (by kernel_rfl) (by kernel_rfl) (by kernel_rfl) (fun _ _ _ h => h) (Or.inl ⟨by rfl, ?_⟩) (by assumption) ?_
      rotate_left
      · (intro W hSw; (try dsimp only at hSw);  go_simp; try with_reducible rfl)
      try simp only [heldPut, List.set]
      refine heldOne (i := 22) rfl (by kernel_rfl) (fun K hK => ?_)
      have hb3 : Below V.heap.size V (V.alloc (.cells #[.bool false, .int .u8 0, .int .u64 0, .int .u64 0, .string ⟨#[]⟩, .slice none 0 0, .int .u8 0, .int .u8 0, .int .i64 0, .int .u8 0, .int .u8 0, .int .u64 0, .int .u64 0] 60)) := (Below.refl _ _).alloc (Nat.le_refl _) _
      have hn3 := heap_alloc_new V (.cells #[.bool false, .int .u8 0, .int .u64 0, .int .u64 0, .string ⟨#[]⟩, .slice none 0 0, .int .u8 0, .int .u8 0, .int .i64 0, .int .u8 0, .int .u8 0, .int .u64 0, .int .u64 0] 60)
      have hsz3 := hh2.size
      go_simp
      refine hK.out _ _ ?_ (fun hh3 => ?_)
      · exact hh2.trans (hb3.mono hh2.size)
      clear hK K
      try simp only [heldPut, List.set]
      refine heldOne (i := 23) rfl (by kernel_rfl) (fun K hK => ?_)
      rw [if_pos (by rfl)]
      refine wp_store_row _ _ _ rfl (V.heap.size) _ rfl rfl _ _ hn3 Try.infoIt rfl (by simp [Value.oneCell', itC]) ?_
      refine hK.out _ _ ?_ (fun hh5 => ?_)
      · exact below_setRow hh3 hsz3 _
      clear hK K
      refine heldTake (i := 24) (v := ?_) rfl (by kernel_rfl) (by kernel_rfl) (by kernel_rfl) (fun _ _ _ h => h) (Or.inl ⟨by rfl, ?_⟩) (by assumption) ?_
      rotate_left
      · (intro W hSw; (try dsimp only at hSw);  go_simp; try with_reducible rfl)
      try simp only []
      refine wpAnyH_done (by kernel_rfl) ?_ _
      refine NoPanic.normal ?_
      go_wp2_with fail
      go_meet
      exact ⟨V.heap.size, rfl, rfl, hh5, hsz3, setRow_heap _ _ _ _ _ _ hn3⟩
    case' gB =>
      have hb3 : Below w2.heap.size w2 (w2.alloc (.cells #[.bool false, .int .u8 0, .int .u64 0, .int .u64 0, .string ⟨#[]⟩, .slice none 0 0, .int .u8 0, .int .u8 0, .int .i64 0, .int .u8 0, .int .u8 0, .int .u64 0, .int .u64 0] 60)) := (Below.refl _ _).alloc (Nat.le_refl _) _
      have hn3 := heap_alloc_new w2 (.cells #[.bool false, .int .u8 0, .int .u64 0, .int .u64 0, .string ⟨#[]⟩, .slice none 0 0, .int .u8 0, .int .u8 0, .int .i64 0, .int .u8 0, .int .u8 0, .int .u64 0, .int .u64 0] 60)
      have hsz3 := hHeld.size
      go_simp
      refine hK.out _ _ ?_ (fun hh3 => ?_)
      · exact hHeld.trans (hb3.mono hHeld.size)
      clear hK K
      try simp only [heldPut, List.set]
      refine heldOne (i := 18) rfl (by kernel_rfl) (fun K hK => ?_)
      go_simp
      refine (join_C ea.x eb.x HOB.out ea.A ea.x.l.length ea.c eb.A eb.x.l.length eb.c _).mono ?_
      rintro e V ⟨rfl, hb2⟩
      go_wp2_with fail
      refine hK.out _ _ ?_ (fun hh2 => ?_)
      · exact hh3.trans (hb2.mono hh3.size)
      clear hK K
      try simp only [heldPut, List.set]
      have hn4 := (hb2.block w2.heap.size (Array.getElem?_eq_some_iff.1 hn3).1).trans hn3
      refine heldTake (i := 19) (v := ?_) rfl (by kernel_rfl) (by kernel_rfl) (by kernel_rfl) (fun _ _ _ h => h) (Or.inl ⟨by rfl, ?_⟩) (by assumption) ?_
      rotate_left
      · (intro W hSw; (try dsimp only at hSw);  go_simp; try with_reducible rfl)
      try simp only [heldPut, List.set]
      refine heldTake (i := 20) (v := ?_) rfl (by kernel_rfl) (by kernel_rfl) (by kernel_rfl) (fun _ _ _ h => h) (Or.inl ⟨by rfl, ?_⟩) (by assumption) ?_
      rotate_left
      · (intro W hSw; (try dsimp only at hSw);  go_simp; try with_reducible rfl)
      try simp only [heldPut, List.set]
      refine heldTake (i := 21) (v := ?_) rfl (by kernel_rfl) (by kernel_rfl) (by kernel_rfl) (fun _ _ _ h => h) (Or.inl ⟨by rfl, ?_⟩) (by assumption) ?_
      rotate_left
      · (intro W hSw; (try dsimp only at hSw);  go_simp; try with_reducible rfl)
      try simp only [heldPut, List.set]
      refine heldOne (i := 23) rfl (by kernel_rfl) (fun K hK => ?_)
      rw [if_pos (by rfl)]
      refine wp_store_row _ _ _ rfl (w2.heap.size) _ rfl rfl _ _ hn4 Try.infoIt rfl (by simp [Value.oneCell', itC]) ?_
      refine hK.out _ _ ?_ (fun hh5 => ?_)
      · exact below_setRow hh2 hsz3 _
      clear hK K
      refine heldTake (i := 24) (v := ?_) rfl (by kernel_rfl) (by kernel_rfl) (by kernel_rfl) (fun _ _ _ h => h) (Or.inl ⟨by rfl, ?_⟩) (by assumption) ?_
      rotate_left
      · (intro W hSw; (try dsimp only at hSw);  go_simp; try with_reducible rfl)
      try simp only []
      refine wpAnyH_done (by kernel_rfl) ?_ _
      refine NoPanic.normal ?_
      go_wp2_with fail
      go_meet
      exact ⟨w2.heap.size, rfl, rfl, hh5, hsz3, setRow_heap _ _ _ _ _ _ hn4⟩
  case rest =>
    obtain ⟨Y, rfl, rfl, HBW, HYl, HYc⟩ := hcut
    clear HC37 HRA HRB
    by_cases hj : joinB ea.x eb.x = true
    · rw [hj]
      have hl0 := joinI_l ea.x eb.x
      have hent : EntOk wc S ⟨ea.i, joinI ea.x eb.x, none, 0⟩ := ⟨HY.out, joinI_short _ _, by simp only [hl0]; decide, HZ.out, HIX.out, fun _ => by simp only [hl0]; rfl, by simp only [hl0]; exact RdP.nil, fun a ha => (by cases ha)⟩
      have hw1 : IntKind.i64.wrap ((b : Int) + 1) = ((b + 1 : Nat) : Int) := by rw [IntKind.wrap_i64]; omega
      have HS0 := Lib.hid (HH.out.below HBW.out)
      have HEN := Lib.hid hent
      clear hl0 hent
      go_wp2_with (first | (refine wpList_load_row rfl _ _ rfl Y rfl _ _ _ _ HYc.out Try.underlying60 rfl Try.infoIt ?_) | fail)
      refine (set_any (joinI ea.x eb.x) none 0 wc HS0.out HA.out HEN.out).mono ?_
      rintro e' w4 ⟨rfl, hs4, hst4⟩
      have HS4 := Lib.hid hs4
      have HT4 := Lib.hid hst4
      clear hs4 hst4
      go_wp2_with fail
      refine (remove_any w4 HS4.out (Nat.lt_succ_self b) (by rw [List.length_set, ← HN.out]; omega)).mono ?_
      rintro e' w5 ⟨rfl, hs5, hst5⟩
      have HS5 := Lib.hid hs5
      have HT5 : Hid (Step w S w5 S) := ((Step.mk (Only.of_below HBW.out S) (fun _ h => .inl h)).trans HT4.out).trans hst5
      clear hs5 hst5
      go_wp2
      go_ret
      exact ⟨rfl, HS5.out, HT5.out⟩
    · have hj : joinB ea.x eb.x = false := by simpa using hj
      rw [hj]
      go_wp2
      go_ret
      exact ⟨rfl, HH.out.below HBW.out, ⟨Only.of_below HBW.out _, fun _ h => .inl h⟩⟩
end Go.Proofs.Ytgcfofnlgdfmoaa
