/- Several texts in one: FrDec. -/
import Derived.Test.YtnagmopejblegaaGreatMb40
import Derived.Test.YtnagmopejblegaaGreatMb41
/- Layer 5: frame.Decode. -/
namespace Go.Proofs.YtnagmopejblegaaGreat
open Go.RowKit

theorem takeR_labs (s : St) : (takeR s).1.l.length ≤ 8 := by
  have h1 : ∀ s : St, (itR 12 8 8 16 s).1.l.length ≤ 8 := fun s => by
    show ((if (rB s).1 then gapR else evR 12 8 8 16) (rB s).2).1.l.length ≤ 8
    cases (rB s).1
    · exact evR_len 12 8 8 16 _
    · exact Nat.zero_le _
  have h2 : ∀ (x : It) (s : St), x.l.length ≤ 8 → (chkR x s).1.l.length ≤ 8 := fun x s h => by
    unfold chkR
    split
    · split
      · exact h
      · exact Nat.zero_le _
    · exact Nat.zero_le _
  exact h2 _ _ (h1 s)
theorem takeF_labs (s : St) : (takeF s).1.i.l.length ≤ 8 := by
  have h : ∀ k f t s, (restR k f t s).1.i.l.length ≤ 8 := fun k f t s => by
    unfold restR
    split
    · exact takeR_labs _
    · split
      · exact Nat.zero_le _
      · exact Nat.zero_le _
  exact h _ _ _ _
section
variable {w V V2 : World} {g d s b X : Nat} {P : Nat → Prop}
theorem grown_row (w : World) (X : Nat) (cs : Array Value) : w.grownBy (w.setRow X cs) (some X) :=
  ⟨rfl, rfl, rfl, by simp [World.setRow], fun k _ hne => setRow_other w X k cs (fun e => hne (by rw [e]))⟩
theorem TurnsIn.far {r : Option Nat} (h : TurnsIn w V g P) (hg : V.grownBy V2 r) (hr : ∀ k, r = some k → w.heap.size ≤ k) (hl : g < w.heap.size) : TurnsIn w V2 g P :=
  have hb : V2.heap[g]? = V.heap[g]? := hg.block g (Nat.lt_of_lt_of_le hl h.grown.size) (fun e => by have := hr g e.symm; omega)
  ⟨grown_fresh h.grown hg hr, fun o ho => (World.cell?_of_block hb).trans (h.cell o ho), fun o => (World.frozen?_of_block hb).trans (h.fz o)⟩
theorem Tab.far {r : Option Nat} (h : Tab V g d s b) (hg : V.grownBy V2 r) (hr : r ≠ some g) : Tab V2 g d s b :=
  have hb : V2.heap[g]? = V.heap[g]? := hg.block g h.lt (fun e => hr e.symm)
  { lt := Nat.lt_of_lt_of_le h.lt hg.size
    c0 := (World.cell?_of_block hb).trans h.c0
    c1 := (World.cell?_of_block hb).trans h.c1
    tab := fun j hj => by
      obtain ⟨x, hx, hx2⟩ := h.tab j hj
      exact ⟨x, (World.cell?_of_block hb).trans hx, hx2⟩
    sums := (World.cell?_of_block hb).trans h.sums
    bytes := (World.cell?_of_block hb).trans h.bytes
    fz := fun o => (World.frozen?_of_block hb).trans (h.fz o) }
/-- the table, and the result's cells, in the ways through 'Decode' -/
structure DcAt (w V : World) (g s b : Nat) : Prop where
  ti : TurnsIn w V g (fun _ => True)
  tab : Tab V g 1 s b
  re : V.heap[w.heap.size]? = some (.cells #[.int .u8 0, .int .u8 0, .int .u8 0, .int .u64 0, .int .u64 0, .bool false, .int .u8 0, .int .u64 0, .int .u64 0, .string ⟨#[]⟩, .slice none 0 0, .int .u8 0, .int .u8 0, .int .i64 0, .int .u8 0, .int .u8 0, .int .u64 0, .int .u64 0, .int .u64 0, .int .u64 0, .int .u64 0] 42 (0, 0))
  lt : g < w.heap.size
theorem DcAt.wl (h : DcAt w V g s b) : w.heap.size < V.heap.size := (Array.getElem?_eq_some_iff.1 h.re).1
theorem DcAt.far {r : Option Nat} (h : DcAt w V g s b) (hg : V.grownBy V2 r) (hr : ∀ k, r = some k → w.heap.size < k) : DcAt w V2 g s b :=
  have hl := h.lt
  ⟨h.ti.far hg (fun k e => Nat.le_of_lt (hr k e)) hl, h.tab.far hg (fun e => by have := hr _ e; omega), (hg.block _ h.wl (fun e => by have := hr _ e.symm; omega)).trans h.re, hl⟩
theorem DcAt.below (h : DcAt w V g s b) (hb : Below V.heap.size V V2) : DcAt w V2 g s b := h.far (grown_below0 hb none) (fun k e => by cases e)
theorem DcAt.end_ (h : DcAt w V g s b) (cs : Array Value) : TurnsIn w (V.setRow w.heap.size cs) g (fun _ => True) ∧ Tab (V.setRow w.heap.size cs) g 1 s b :=
  have hl := h.lt
  ⟨h.ti.far (grown_row V w.heap.size cs) (fun k e => by cases e; exact Nat.le_refl _) hl, h.tab.far (grown_row V w.heap.size cs) (fun e => by injection e with e; omega)⟩
end

set_option maxRecDepth 100000 in
set_option maxHeartbeats 4000000 in
/-- no table -/
theorem fdec_nil (v : Value) (w : World) :
    Calls Tryz.prog 9 #[.pointer none, v] w fun e w' => e = .returned (.tuple #[.agg #[.int .u8 0, .int .u8 0, .int .u8 0, .int .u64 0, .int .u64 0, .bool false, .int .u8 0, .int .u64 0, .int .u64 0, .string ⟨#[]⟩, .slice none 0 0, .int .u8 0, .int .u8 0, .int .i64 0, .int .u8 0, .int .u8 0, .int .u64 0, .int .u64 0, .int .u64 0, .int .u64 0, .int .u64 0], .int .i64 1]) ∧ Below w.heap.size w w' := by
  obtain ⟨W, hW⟩ : ∃ W, W = w.alloc (.cells #[.int .u8 0, .int .u8 0, .int .u8 0, .int .u64 0, .int .u64 0, .bool false, .int .u8 0, .int .u64 0, .int .u64 0, .string ⟨#[]⟩, .slice none 0 0, .int .u8 0, .int .u8 0, .int .i64 0, .int .u8 0, .int .u8 0, .int .u64 0, .int .u64 0, .int .u64 0, .int .u64 0, .int .u64 0] 42) := ⟨_, rfl⟩
  have hb : Below w.heap.size w W := by rw [hW]; exact (Below.refl _ _).alloc (Nat.le_refl _) _
  have hc : W.heap[w.heap.size]? = some (.cells #[.int .u8 0, .int .u8 0, .int .u8 0, .int .u64 0, .int .u64 0, .bool false, .int .u8 0, .int .u64 0, .int .u64 0, .string ⟨#[]⟩, .slice none 0 0, .int .u8 0, .int .u8 0, .int .i64 0, .int .u8 0, .int .u8 0, .int .u64 0, .int .u64 0, .int .u64 0, .int .u64 0, .int .u64 0] 42 (0, 0)) := by rw [hW]; exact heap_alloc_new _ _
  have hl : w.heap.size < W.heap.size := by rw [hW]; simp
  have HW := Lib.hid hW
  have HC := Lib.hid hc
  have HB := Lib.hid hb
  clear hW hb hc hl
  go_enter Tryz.func9, Tryz.ntmps9
  go_upto_region 1 with fail
  rw [← HW.out]
  go_wp2_with (first | (refine wpList_store_row rfl _ _ _ rfl w.heap.size _ rfl rfl _ _ HC.out Tryz.infoF rfl (by kernel_rfl) ?_) | fail)
  exact bodyPost_ret (v := .tuple #[.agg #[.int .u8 0, .int .u8 0, .int .u8 0, .int .u64 0, .int .u64 0, .bool false, .int .u8 0, .int .u64 0, .int .u64 0, .string ⟨#[]⟩, .slice none 0 0, .int .u8 0, .int .u8 0, .int .i64 0, .int .u8 0, .int .u8 0, .int .u64 0, .int .u64 0, .int .u64 0, .int .u64 0, .int .u64 0], .int .i64 1]) (results_cell_two rfl _ _ w.heap.size _ _ _ _ rfl rfl (setRow_heap _ _ _ _ _ _ HC.out) Tryz.underlying42 rfl (by kernel_rfl)) rfl ⟨rfl, below_setRow HB.out (Nat.le_refl _) _⟩

set_option maxRecDepth 100000 in
set_option maxHeartbeats 4000000 in
/-- too few bytes -/
theorem fdec_short (g : Nat) (A : Option Addr) (n c : Nat) (hn : n < 8) (w : World) :
    Calls Tryz.prog 9 #[.pointer (some ⟨g, 0, none⟩), .slice A n c] w fun e w' => e = .returned (.tuple #[.agg #[.int .u8 0, .int .u8 0, .int .u8 0, .int .u64 0, .int .u64 0, .bool false, .int .u8 0, .int .u64 0, .int .u64 0, .string ⟨#[]⟩, .slice none 0 0, .int .u8 0, .int .u8 0, .int .i64 0, .int .u8 0, .int .u8 0, .int .u64 0, .int .u64 0, .int .u64 0, .int .u64 0, .int .u64 0], .int .i64 3]) ∧ Below w.heap.size w w' := by
  have h8 : decide ((n : Int) < 8) = true := decide_eq_true (by omega)
  obtain ⟨W, hW⟩ : ∃ W, W = w.alloc (.cells #[.int .u8 0, .int .u8 0, .int .u8 0, .int .u64 0, .int .u64 0, .bool false, .int .u8 0, .int .u64 0, .int .u64 0, .string ⟨#[]⟩, .slice none 0 0, .int .u8 0, .int .u8 0, .int .i64 0, .int .u8 0, .int .u8 0, .int .u64 0, .int .u64 0, .int .u64 0, .int .u64 0, .int .u64 0] 42) := ⟨_, rfl⟩
  have hb : Below w.heap.size w W := by rw [hW]; exact (Below.refl _ _).alloc (Nat.le_refl _) _
  have hc : W.heap[w.heap.size]? = some (.cells #[.int .u8 0, .int .u8 0, .int .u8 0, .int .u64 0, .int .u64 0, .bool false, .int .u8 0, .int .u64 0, .int .u64 0, .string ⟨#[]⟩, .slice none 0 0, .int .u8 0, .int .u8 0, .int .i64 0, .int .u8 0, .int .u8 0, .int .u64 0, .int .u64 0, .int .u64 0, .int .u64 0, .int .u64 0] 42 (0, 0)) := by rw [hW]; exact heap_alloc_new _ _
  have hl : w.heap.size < W.heap.size := by rw [hW]; simp
  have HW := Lib.hid hW
  have HC := Lib.hid hc
  have HB := Lib.hid hb
  clear hW hb hc hl hn
  go_enter Tryz.func9, Tryz.ntmps9
  go_upto_region 1 with fail
  rw [← HW.out]
  go_wp2_with (first | (refine wpList_store_row rfl _ _ _ rfl w.heap.size _ rfl rfl _ _ HC.out Tryz.infoF rfl (by kernel_rfl) ?_) | fail)
  exact bodyPost_ret (v := .tuple #[.agg #[.int .u8 0, .int .u8 0, .int .u8 0, .int .u64 0, .int .u64 0, .bool false, .int .u8 0, .int .u64 0, .int .u64 0, .string ⟨#[]⟩, .slice none 0 0, .int .u8 0, .int .u8 0, .int .i64 0, .int .u8 0, .int .u8 0, .int .u64 0, .int .u64 0, .int .u64 0, .int .u64 0, .int .u64 0], .int .i64 3]) (results_cell_two rfl _ _ w.heap.size _ _ _ _ rfl rfl (setRow_heap _ _ _ _ _ _ HC.out) Tryz.underlying42 rfl (by kernel_rfl)) rfl ⟨rfl, below_setRow HB.out (Nat.le_refl _) _⟩

/-- what Decode returns, and what it does to the world: the table's block turns, and new blocks come -/
def FDecRet (y : Fr) (er g s b : Nat) (w : World) (e : Ending) (w' : World) : Prop :=
  ∃ A n c, e = .returned (.tuple #[.agg #[.int .u8 y.k, .int .u8 y.f, .int .u8 y.t, .int .u64 y.e, .int .u64 y.q, .bool y.i.g, .int .u8 y.i.o, .int .u64 y.i.q, .int .u64 y.i.t, .string y.i.r, .slice A n c, .int .u8 y.i.s, .int .u8 y.i.p, .int .i64 y.i.v, .int .u8 y.i.w, .int .u8 y.i.ga, .int .u64 y.i.gf, .int .u64 y.i.gt, .int .u64 y.c, .int .u64 y.b, .int .u64 y.l], .int .i64 (er : Nat)]) ∧ n = y.i.l.length ∧ w'.ownsRow w.heap.size 98 2 (.slice A n c) n (cellsP y.i.l) ∧ TurnsIn w w' g (fun _ => True) ∧ Tab w' g 1 s b

set_option maxRecDepth 100000 in
set_option maxHeartbeats 4000000 in
/-- the sum does not fit -/
theorem fdec_sum (g d s t : Nat) (hd : d ≤ 1) (b o k c : Nat) (l : List Nat) (x0 x1 x2 x3 : Nat) (B : Nat) (w : World) (h : Tab w g d s t) (hn : k = l.length) (hm : k ≤ 1048576) (hk : 4 ≤ k) (hc : k + 4 ≤ c) (hs : s < 18446744073709551615) (hbn : t + k < 18446744073709551616)
    (hr : RdB w B (some ⟨b, o, none⟩) (l ++ [x0, x1, x2, x3])) (hB : B ≤ w.heap.size) (hok : OkB l) (hok4 : OkB [x0, x1, x2, x3]) (hbg : b ≠ g) (hyes : (sumN l == takeN [x0, x1, x2, x3]) = false) :
    Calls Tryz.prog 9 #[.pointer (some ⟨g, 0, none⟩), .slice (some ⟨b, o, none⟩) (k + 4 : Nat) c] w (FDecRet zeroF 10 g (s + 1) (t + k) w) := by
  have h8 : decide (((k + 4 : Nat) : Int) < 8) = false := decide_eq_false (by omega)
  have h8b : decide ((k : Int) + 4 < 8) = false := decide_eq_false (by omega)
  have hgl := h.lt
  obtain ⟨W, hW⟩ : ∃ W, W = w.alloc (.cells #[.int .u8 0, .int .u8 0, .int .u8 0, .int .u64 0, .int .u64 0, .bool false, .int .u8 0, .int .u64 0, .int .u64 0, .string ⟨#[]⟩, .slice none 0 0, .int .u8 0, .int .u8 0, .int .i64 0, .int .u8 0, .int .u8 0, .int .u64 0, .int .u64 0, .int .u64 0, .int .u64 0, .int .u64 0] 42) := ⟨_, rfl⟩
  have hbw : Below w.heap.size w W := by rw [hW]; exact (Below.refl _ _).alloc (Nat.le_refl _) _
  have hcw : W.heap[w.heap.size]? = some (.cells #[.int .u8 0, .int .u8 0, .int .u8 0, .int .u64 0, .int .u64 0, .bool false, .int .u8 0, .int .u64 0, .int .u64 0, .string ⟨#[]⟩, .slice none 0 0, .int .u8 0, .int .u8 0, .int .i64 0, .int .u8 0, .int .u8 0, .int .u64 0, .int .u64 0, .int .u64 0, .int .u64 0, .int .u64 0] 42 (0, 0)) := by rw [hW]; exact heap_alloc_new _ _
  have hl : w.heap.size < W.heap.size := by rw [hW]; simp
  have hop := open_any g d s t hd b o k c l x0 x1 x2 x3 false B W (h.below hbw) hn hm hc hs hbn (hr.keep fun p hp => World.cell?_of_block (hbw.block _ (by omega))) (by omega) hok hok4 hbg hyes
  have HOp := Lib.hid hop
  have HW := Lib.hid hW
  have HC := Lib.hid hcw
  have HB := Lib.hid hbw
  have HL := Lib.hid hl
  have HOk := Lib.hid hok
  have HGL := Lib.hid hgl
  have HN := Lib.hid hn
  clear hop hW hcw hbw hl hok hgl hn hd h hc hs hbn hr hB hok4 hbg hyes hk
  go_enter Tryz.func9, Tryz.ntmps9
  go_upto_region 1 with fail
  rw [← HW.out]
  go_wp2_with fail
  refine HOp.out.mono ?_
  rintro e w1 ⟨v1, rfl, ho, ht, hT⟩
  have HD := Lib.hid (show DcAt w w1 g (s + 1) (t + k) from ⟨(TurnsIn.of_below HGL.out HB.out).trans ht, hT, (ht.grown.block _ HL.out (by have := HGL.out; simp; omega)).trans HC.out, HGL.out⟩)
  clear ho ht hT HC HOp HW HB
  go_wp2_with (first | (refine wpList_store_row rfl _ _ _ rfl w.heap.size _ rfl rfl _ _ HD.out.re Tryz.infoF rfl (by kernel_rfl) ?_) | fail)
  have he := HD.out.end_ #[.int .u8 0, .int .u8 0, .int .u8 0, .int .u64 0, .int .u64 0, .bool false, .int .u8 0, .int .u64 0, .int .u64 0, .string ⟨#[]⟩, .slice none 0 0, .int .u8 0, .int .u8 0, .int .i64 0, .int .u8 0, .int .u8 0, .int .u64 0, .int .u64 0, .int .u64 0, .int .u64 0, .int .u64 0]
  exact bodyPost_ret (v := .tuple #[.agg #[.int .u8 0, .int .u8 0, .int .u8 0, .int .u64 0, .int .u64 0, .bool false, .int .u8 0, .int .u64 0, .int .u64 0, .string ⟨#[]⟩, .slice none 0 0, .int .u8 0, .int .u8 0, .int .i64 0, .int .u8 0, .int .u8 0, .int .u64 0, .int .u64 0, .int .u64 0, .int .u64 0, .int .u64 0], .int .i64 (10 : Nat)]) (results_cell_two rfl _ _ w.heap.size _ _ _ _ rfl rfl (setRow_heap _ _ _ _ _ _ HD.out.re) Tryz.underlying42 rfl (by kernel_rfl)) rfl ⟨none, 0, 0, rfl, rfl, World.ownsRow_nil _ _ _ _, he.1, he.2⟩

set_option maxRecDepth 100000 in
set_option maxHeartbeats 4000000 in
/-- the sum fits -/
theorem fdec_any (g d s t : Nat) (hd : d ≤ 1) (b o k c : Nat) (l : List Nat) (x0 x1 x2 x3 : Nat) (B : Nat) (w : World) (h : Tab w g d s t) (hn : k = l.length) (hm : k ≤ 1048576) (hk : 4 ≤ k) (hc : k + 4 ≤ c) (hs : s < 18446744073709551615) (hbn : t + k < 18446744073709551616)
    (hr : RdB w B (some ⟨b, o, none⟩) (l ++ [x0, x1, x2, x3])) (hB : B ≤ w.heap.size) (hok : OkB l) (hok4 : OkB [x0, x1, x2, x3]) (hbg : b ≠ g) (hyes : (sumN l == takeN [x0, x1, x2, x3]) = true) :
    Calls Tryz.prog 9 #[.pointer (some ⟨g, 0, none⟩), .slice (some ⟨b, o, none⟩) (k + 4 : Nat) c] w (FDecRet (decFr l) (decN l) g (s + 1) (t + k) w) := by
  have h8 : decide (((k + 4 : Nat) : Int) < 8) = false := decide_eq_false (by omega)
  have h8b : decide ((k : Int) + 4 < 8) = false := decide_eq_false (by omega)
  have hgl := h.lt
  obtain ⟨W, hW⟩ : ∃ W, W = w.alloc (.cells #[.int .u8 0, .int .u8 0, .int .u8 0, .int .u64 0, .int .u64 0, .bool false, .int .u8 0, .int .u64 0, .int .u64 0, .string ⟨#[]⟩, .slice none 0 0, .int .u8 0, .int .u8 0, .int .i64 0, .int .u8 0, .int .u8 0, .int .u64 0, .int .u64 0, .int .u64 0, .int .u64 0, .int .u64 0] 42) := ⟨_, rfl⟩
  have hbw : Below w.heap.size w W := by rw [hW]; exact (Below.refl _ _).alloc (Nat.le_refl _) _
  have hcw : W.heap[w.heap.size]? = some (.cells #[.int .u8 0, .int .u8 0, .int .u8 0, .int .u64 0, .int .u64 0, .bool false, .int .u8 0, .int .u64 0, .int .u64 0, .string ⟨#[]⟩, .slice none 0 0, .int .u8 0, .int .u8 0, .int .i64 0, .int .u8 0, .int .u8 0, .int .u64 0, .int .u64 0, .int .u64 0, .int .u64 0, .int .u64 0] 42 (0, 0)) := by rw [hW]; exact heap_alloc_new _ _
  have hl : w.heap.size < W.heap.size := by rw [hW]; simp
  have hop := open_any g d s t hd b o k c l x0 x1 x2 x3 true B W (h.below hbw) hn hm hc hs hbn (hr.keep fun p hp => World.cell?_of_block (hbw.block _ (by omega))) (by omega) hok hok4 hbg hyes
  have HOp := Lib.hid hop
  have HW := Lib.hid hW
  have HC := Lib.hid hcw
  have HB := Lib.hid hbw
  have HL := Lib.hid hl
  have HOk := Lib.hid hok
  have HGL := Lib.hid hgl
  have HN := Lib.hid hn
  clear hop hW hcw hbw hl hok hgl hn hd h hc hs hbn hr hB hok4 hbg hyes hk
  go_enter Tryz.func9, Tryz.ntmps9
  go_upto_region 1 with fail
  rw [← HW.out]
  go_wp2_with fail
  refine HOp.out.mono ?_
  rintro e w1 ⟨v1, rfl, ho, ht, hT⟩
  have HD1 := Lib.hid (show DcAt w w1 g (s + 1) (t + k) from ⟨(TurnsIn.of_below HGL.out HB.out).trans ht, hT, (ht.grown.block _ HL.out (by have := HGL.out; simp; omega)).trans HC.out, HGL.out⟩)
  simp only [if_true] at ho
  rw [HN.out] at ho
  obtain ⟨A0, c0, rfl⟩ := ownB_slice ho
  have HRd := Lib.hid (rread_any A0 l.length c0 l w1.heap.size w1 rfl (fun e => by
    have h := RdB.of_own ho
    cases l with
    | nil => rfl
    | cons x l => subst e; obtain ⟨b, o, e, _⟩ := h (by simp); cases e) (by have := HN.out; omega) (RdB.of_own ho) (Nat.le_refl _) HOk.out)
  clear ho ht hT HC HOp HW HB HL
  go_wp2_with fail
  refine HRd.out.mono ?_
  rintro e w2 ⟨r, rfl, hr2, hg2, hb2⟩
  obtain ⟨y, hy⟩ : ∃ y, (takeF (l, 0)).1 = y := ⟨_, rfl⟩
  obtain ⟨st, hs⟩ : ∃ y, (takeF (l, 0)).2 = y := ⟨_, rfl⟩
  have hlen := takeF_labs (l, 0)
  rw [hy] at hlen
  have t2 := ftake_any r (l, 0) w2 hr2
  rw [hy, hs] at t2
  have HT2 := Lib.hid t2
  have HY := Lib.hid hy
  have HS := Lib.hid hs
  have HLen := Lib.hid hlen
  have HD2 := Lib.hid (HD1.out.below hb2)
  have HR : Hid (w.heap.size < r) := Nat.lt_of_lt_of_le HD1.out.wl hg2
  have HR2 := Lib.hid hr2.lt
  clear hr2 hg2 hb2 hy hs t2 HD1 HRd hlen
  go_wp2_with fail
  refine HT2.out.mono ?_
  rintro e w3 ⟨A1, n1, c1, rfl, hn, ho, hr, hg⟩
  have HN1 := Lib.hid hn
  have HO := Lib.hid (ownB_mono ho (show r + 1 ≤ w2.heap.size from HR2.out))
  have HRd3 := Lib.hid hr
  have HD3 := Lib.hid (HD2.out.far hg (fun k e => by cases e; exact HR.out))
  have HR3 : Hid (r < w3.heap.size) := Nat.lt_of_lt_of_le HR2.out hg.size
  clear hn ho hr hg HD2 HT2 HR2
  go_upto_region 10 with (first | (refine wpList_store_row rfl _ _ _ rfl w3.heap.size _ rfl rfl _ _ (heap_alloc_new _ _) Tryz.infoF rfl (by kernel_rfl) ?_) | fail)
  rw [act_put0]
  obtain ⟨w4, hw4⟩ : ∃ V, V = (w3.alloc (.cells #[.int .u8 0, .int .u8 0, .int .u8 0, .int .u64 0, .int .u64 0, .bool false, .int .u8 0, .int .u64 0, .int .u64 0, .string ⟨#[]⟩, .slice none 0 0, .int .u8 0, .int .u8 0, .int .i64 0, .int .u8 0, .int .u8 0, .int .u64 0, .int .u64 0, .int .u64 0, .int .u64 0, .int .u64 0] 42)).setRow w3.heap.size #[.int .u8 y.k, .int .u8 y.f, .int .u8 y.t, .int .u64 y.e, .int .u64 y.q, .bool y.i.g, .int .u8 y.i.o, .int .u64 y.i.q, .int .u64 y.i.t, .string y.i.r, .slice A1 n1 c1, .int .u8 y.i.s, .int .u8 y.i.p, .int .i64 y.i.v, .int .u8 y.i.w, .int .u8 y.i.ga, .int .u64 y.i.gf, .int .u64 y.i.gt, .int .u64 y.c, .int .u64 y.b, .int .u64 y.l] := ⟨_, rfl⟩
  rw [← hw4]
  have hX : w4.heap[w3.heap.size]? = some (.cells #[.int .u8 y.k, .int .u8 y.f, .int .u8 y.t, .int .u64 y.e, .int .u64 y.q, .bool y.i.g, .int .u8 y.i.o, .int .u64 y.i.q, .int .u64 y.i.t, .string y.i.r, .slice A1 n1 c1, .int .u8 y.i.s, .int .u8 y.i.p, .int .i64 y.i.v, .int .u8 y.i.w, .int .u8 y.i.ga, .int .u64 y.i.gf, .int .u64 y.i.gt, .int .u64 y.c, .int .u64 y.b, .int .u64 y.l] 42 (0, 0)) := by rw [hw4]; exact setRow_heap _ _ _ _ _ _ (heap_alloc_new _ _)
  have hb4 : Below w3.heap.size w3 w4 := by rw [hw4]; exact below_setRow ((Below.refl _ _).alloc (Nat.le_refl _) _) (Nat.le_refl _) _
  have HX := Lib.hid hX
  have HXL := Lib.hid (Array.getElem?_eq_some_iff.1 hX).1
  have HD4 := Lib.hid (HD3.out.below hb4)
  have HO4 := Lib.hid (own_below HO.out hb4)
  have t3 := tk_done r st w4 (HRd3.out.below hb4)
  obtain ⟨er, her⟩ : ∃ k, endN st = k := ⟨_, rfl⟩
  rw [show endE st = er from her] at t3
  have HT3 := Lib.hid t3
  have HEr := Lib.hid her
  clear hw4 hX hb4 t3 her HO HD3 HRd3
  go_wp2_with fail
  refine HT3.out.mono ?_
  rintro e w5 ⟨rfl, hg⟩
  have HX5 := Lib.hid ((hg.block w3.heap.size HXL.out (by have := HR3.out; simp; omega)).trans HX.out)
  have HO5 := Lib.hid (own_far HO4.out hg (Nat.lt_succ_self r))
  have HD5 := Lib.hid (HD4.out.far hg (fun k e => by cases e; exact HR.out))
  clear hg HX HO4 HD4 HT3 HXL
  by_cases he : er = 0
  case neg =>
    have hq : ((er : Int) != 0) = true := by rw [bne_iff_ne]; omega
    have HE : Hid (decN l = er) := by show _ = _; unfold decN; rw [HS.out, HEr.out, if_neg he]
    have HI : Hid (decFr l = zeroF) := by show _ = _; unfold decFr; rw [HE.out, if_neg he]
    clear he
    go_wp2_with (first | (refine wpList_store_row rfl _ _ _ rfl w.heap.size _ rfl rfl _ _ HD5.out.re Tryz.infoF rfl (by kernel_rfl) ?_) | fail)
    have he := HD5.out.end_ #[.int .u8 0, .int .u8 0, .int .u8 0, .int .u64 0, .int .u64 0, .bool false, .int .u8 0, .int .u64 0, .int .u64 0, .string ⟨#[]⟩, .slice none 0 0, .int .u8 0, .int .u8 0, .int .i64 0, .int .u8 0, .int .u8 0, .int .u64 0, .int .u64 0, .int .u64 0, .int .u64 0, .int .u64 0]
    rw [HI.out, HE.out]
    exact bodyPost_ret (v := .tuple #[.agg #[.int .u8 0, .int .u8 0, .int .u8 0, .int .u64 0, .int .u64 0, .bool false, .int .u8 0, .int .u64 0, .int .u64 0, .string ⟨#[]⟩, .slice none 0 0, .int .u8 0, .int .u8 0, .int .i64 0, .int .u8 0, .int .u8 0, .int .u64 0, .int .u64 0, .int .u64 0, .int .u64 0, .int .u64 0], .int .i64 (er : Nat)]) (results_cell_two rfl _ _ w.heap.size _ _ _ _ rfl rfl (setRow_heap _ _ _ _ _ _ HD5.out.re) Tryz.underlying42 rfl (by kernel_rfl)) rfl ⟨none, 0, 0, rfl, rfl, World.ownsRow_nil _ _ _ _, he.1, he.2⟩
  case pos =>
    subst he
    obtain ⟨ec, hec⟩ : ∃ k, frameN y = k := ⟨_, rfl⟩
    have HE : Hid (decN l = ec) := by show _ = _; unfold decN; rw [HS.out, HEr.out, if_pos rfl, HY.out, hec]
    have hn8 : n1 ≤ maxLen := by have h1 := HLen.out; have h2 := HN1.out; unfold maxLen; omega
    have hck := frameCheck_any y A1 n1 c1 w5 HN1.out hn8 (RdP.of_own HO5.out)
    rw [hec] at hck
    have HCk := Lib.hid hck
    have HXb := Lib.hid (Array.getElem?_eq_some_iff.1 HX5.out).1
    clear hec hck hn8 HS HEr
    go_wp2_with (first | (refine wpList_load_row rfl _ _ rfl w3.heap.size rfl _ _ _ _ HX5.out Tryz.underlying42 rfl (by kernel_rfl) ?_) | fail)
    refine HCk.out.mono ?_
    rintro e w6 ⟨rfl, hb⟩
    have HX6 := Lib.hid ((hb.block _ HXb.out).trans HX5.out)
    have HO6 := Lib.hid (own_below HO5.out hb)
    have HD6 := Lib.hid (HD5.out.below hb)
    clear hb HX5 HO5 HD5 HCk HXb
    by_cases hz : ec = 0
    case neg =>
      have hq : ((ec : Int) != 0) = true := by rw [bne_iff_ne]; omega
      have HI : Hid (decFr l = zeroF) := by show _ = _; unfold decFr; rw [HE.out, if_neg hz]
      clear hz
      go_wp2_with (first | (refine wpList_store_row rfl _ _ _ rfl w.heap.size _ rfl rfl _ _ HD6.out.re Tryz.infoF rfl (by kernel_rfl) ?_) | fail)
      have he := HD6.out.end_ #[.int .u8 0, .int .u8 0, .int .u8 0, .int .u64 0, .int .u64 0, .bool false, .int .u8 0, .int .u64 0, .int .u64 0, .string ⟨#[]⟩, .slice none 0 0, .int .u8 0, .int .u8 0, .int .i64 0, .int .u8 0, .int .u8 0, .int .u64 0, .int .u64 0, .int .u64 0, .int .u64 0, .int .u64 0]
      rw [HI.out, HE.out]
      exact bodyPost_ret (v := .tuple #[.agg #[.int .u8 0, .int .u8 0, .int .u8 0, .int .u64 0, .int .u64 0, .bool false, .int .u8 0, .int .u64 0, .int .u64 0, .string ⟨#[]⟩, .slice none 0 0, .int .u8 0, .int .u8 0, .int .i64 0, .int .u8 0, .int .u8 0, .int .u64 0, .int .u64 0, .int .u64 0, .int .u64 0, .int .u64 0], .int .i64 (ec : Nat)]) (results_cell_two rfl _ _ w.heap.size _ _ _ _ rfl rfl (setRow_heap _ _ _ _ _ _ HD6.out.re) Tryz.underlying42 rfl (by kernel_rfl)) rfl ⟨none, 0, 0, rfl, rfl, World.ownsRow_nil _ _ _ _, he.1, he.2⟩
    case pos =>
      subst hz
      have HI : Hid (decFr l = y) := by show _ = _; unfold decFr; rw [HE.out, if_pos rfl, HY.out]
      go_wp2_with (first
        | (refine wpList_load_row rfl _ _ rfl w3.heap.size rfl _ _ _ _ HX6.out Tryz.underlying42 rfl (by kernel_rfl) ?_)
        | (refine wpList_store_row rfl _ _ _ rfl w.heap.size _ rfl rfl _ _ HD6.out.re Tryz.infoF rfl (by kernel_rfl) ?_)
        | fail)
      have he := HD6.out.end_ #[.int .u8 y.k, .int .u8 y.f, .int .u8 y.t, .int .u64 y.e, .int .u64 y.q, .bool y.i.g, .int .u8 y.i.o, .int .u64 y.i.q, .int .u64 y.i.t, .string y.i.r, .slice A1 n1 c1, .int .u8 y.i.s, .int .u8 y.i.p, .int .i64 y.i.v, .int .u8 y.i.w, .int .u8 y.i.ga, .int .u64 y.i.gf, .int .u64 y.i.gt, .int .u64 y.c, .int .u64 y.b, .int .u64 y.l]
      rw [HI.out, HE.out]
      exact bodyPost_ret (v := .tuple #[.agg #[.int .u8 y.k, .int .u8 y.f, .int .u8 y.t, .int .u64 y.e, .int .u64 y.q, .bool y.i.g, .int .u8 y.i.o, .int .u64 y.i.q, .int .u64 y.i.t, .string y.i.r, .slice A1 n1 c1, .int .u8 y.i.s, .int .u8 y.i.p, .int .i64 y.i.v, .int .u8 y.i.w, .int .u8 y.i.ga, .int .u64 y.i.gf, .int .u64 y.i.gt, .int .u64 y.c, .int .u64 y.b, .int .u64 y.l], .int .i64 (0 : Nat)]) (results_cell_two rfl _ _ w.heap.size _ _ _ _ rfl rfl (setRow_heap _ _ _ _ _ _ HD6.out.re) Tryz.underlying42 rfl (by kernel_rfl)) rfl ⟨A1, n1, c1, rfl, HN1.out, ownB_mono (own_setRow HO6.out (by have := HR.out; omega) _) (by have := HR.out; omega), he.1, he.2⟩
end Go.Proofs.YtnagmopejblegaaGreat
