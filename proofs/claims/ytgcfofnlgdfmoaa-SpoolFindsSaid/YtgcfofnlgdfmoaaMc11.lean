/- Several texts in one: ItPut, ItSmallAll. -/
import Derived.Test.YtgcfofnlgdfmoaaMc5
import Derived.Test.YtgcfofnlgdfmoaaMc8
import Derived.Test.YtgcfofnlgdfmoaaMc9
import Derived.Test.YtgcfofnlgdfmoaaMc10
/- Layer 4: item.Put. -/
namespace Go.Proofs.Ytgcfofnlgdfmoaa
open Go.RowKit

/-- a text, a label, labels, an event, a gap, an item as they are put -/
def textB (s : ByteArray) : List Nat := leb s.size ++ bytesN s
def labsB : List Pr → List Nat
  | [] => []
  | p :: r => textB p.1 ++ textB p.2 ++ labsB r
def headB (x : It) : List Nat := [x.o] ++ leb x.q ++ leb x.t ++ textB x.r ++ leb x.l.length
def tailB (x : It) : List Nat := [x.s] ++ [x.p] ++ leb (zig x.v) ++ [x.w]
def evB (x : It) : List Nat := headB x ++ labsB x.l ++ tailB x
def gapB (x : It) : List Nat := [x.ga] ++ leb x.gf ++ leb x.gt
def itemB (x : It) : List Nat := if x.g then 1 :: gapB x else 0 :: evB x

theorem textB_length (s : ByteArray) : (textB s).length = (leb s.size).length + s.size := by rw [textB, List.length_append, bytesN_length]
theorem labsB_append : ∀ (a b : List Pr), labsB (a ++ b) = labsB a ++ labsB b
  | [], b => rfl
  | p :: r, b => by simp [labsB, labsB_append r b]
theorem labsB_take {l : List Pr} {k : Nat} {p : Pr} (h : l[k]? = some p) : labsB (l.take (k + 1)) = labsB (l.take k) ++ textB p.1 ++ textB p.2 := by
  obtain ⟨h1, rfl⟩ := List.getElem?_eq_some_iff.1 h
  rw [List.take_succ_eq_append_getElem h1, labsB_append]
  simp [labsB]
theorem labsB_le (l : List Pr) (k : Nat) : (labsB (l.take k)).length ≤ (labsB l).length := by
  conv => rhs; rw [← List.take_append_drop k l, labsB_append, List.length_append]
  omega
theorem labsB_mem {l : List Pr} {k : Nat} {p : Pr} (h : l[k]? = some p) : (labsB (l.take k)).length + (textB p.1).length + (textB p.2).length ≤ (labsB l).length := by
  have := labsB_le l (k + 1)
  rw [labsB_take h, List.length_append, List.length_append] at this
  omega

/-- the texts of x are short enough to be put -/
structure ShortI (x : It) : Prop where
  r : x.r.size ≤ 1048576
  l : ∀ (i : Nat) (p : Pr), x.l[i]? = some p → p.1.size ≤ 1048576 ∧ p.2.size ≤ 1048576

theorem EvAt.wrote {w w1 : World} {b g : Nat} {x : It} {A : Option Addr} {n c : Nat} {r r' : Option Nat} (h : EvAt w b x A n c) (hw : Wrote w w1 g r r') (hg : b ≠ g) (hr : some b ≠ r) : EvAt w1 b x A n c :=
  ⟨Nat.lt_of_lt_of_le h.lt hw.size, (hw.cell (p := ⟨b, 0, none⟩) h.lt hg hr).trans h.c0, (hw.cell (p := ⟨b, 1, none⟩) h.lt hg hr).trans h.c1, (hw.cell (p := ⟨b, 2, none⟩) h.lt hg hr).trans h.c2, (hw.cell (p := ⟨b, 3, none⟩) h.lt hg hr).trans h.c3, (hw.cell (p := ⟨b, 4, none⟩) h.lt hg hr).trans h.c4, (hw.cell (p := ⟨b, 5, none⟩) h.lt hg hr).trans h.c5, (hw.cell (p := ⟨b, 6, none⟩) h.lt hg hr).trans h.c6, (hw.cell (p := ⟨b, 7, none⟩) h.lt hg hr).trans h.c7, (hw.cell (p := ⟨b, 8, none⟩) h.lt hg hr).trans h.c8⟩
theorem ItAt.wrote {w w1 : World} {b g : Nat} {x : It} {A : Option Addr} {n c : Nat} {r r' : Option Nat} (h : ItAt w b x A n c) (hw : Wrote w w1 g r r') (hg : b ≠ g) (hr : some b ≠ r) : ItAt w1 b x A n c :=
  ⟨Nat.lt_of_lt_of_le h.lt hw.size, (hw.cell (p := ⟨b, 0, none⟩) h.lt hg hr).trans h.c0, (hw.cell (p := ⟨b, 1, none⟩) h.lt hg hr).trans h.c1, (hw.cell (p := ⟨b, 2, none⟩) h.lt hg hr).trans h.c2, (hw.cell (p := ⟨b, 3, none⟩) h.lt hg hr).trans h.c3, (hw.cell (p := ⟨b, 4, none⟩) h.lt hg hr).trans h.c4, (hw.cell (p := ⟨b, 5, none⟩) h.lt hg hr).trans h.c5, (hw.cell (p := ⟨b, 6, none⟩) h.lt hg hr).trans h.c6, (hw.cell (p := ⟨b, 7, none⟩) h.lt hg hr).trans h.c7, (hw.cell (p := ⟨b, 8, none⟩) h.lt hg hr).trans h.c8, (hw.cell (p := ⟨b, 9, none⟩) h.lt hg hr).trans h.c9, (hw.cell (p := ⟨b, 10, none⟩) h.lt hg hr).trans h.c10, (hw.cell (p := ⟨b, 11, none⟩) h.lt hg hr).trans h.c11, (hw.cell (p := ⟨b, 12, none⟩) h.lt hg hr).trans h.c12⟩

/-- labels that a Writer at g with the row r does not write to -/
def LabAt (w : World) (g : Nat) (r : Option Nat) (A : Option Addr) (l : List Pr) : Prop :=
  0 < l.length → ∃ b o, A = some ⟨b, o, none⟩ ∧ b < w.heap.size ∧ b ≠ g ∧ some b ≠ r ∧ ∀ (i : Nat) (p : Pr), l[i]? = some p → w.cell? ⟨b, o + i * 2, none⟩ = some (.string p.1) ∧ w.cell? ⟨b, o + i * 2 + 1, none⟩ = some (.string p.2)
theorem LabAt.wrote {w w1 : World} {g : Nat} {r r1 : Option Nat} {A : Option Addr} {l : List Pr} (h : LabAt w g r A l) (hw : Wrote w w1 g r r1) : LabAt w1 g r1 A l := fun h0 => by
  obtain ⟨b, o, e, hb, hg, hr, hc⟩ := h h0
  refine ⟨b, o, e, Nat.lt_of_lt_of_le hb hw.size, hg, ?_, fun i p hp => ⟨(hw.cell (p := ⟨b, _, none⟩) hb hg hr).trans (hc i p hp).1, (hw.cell (p := ⟨b, _, none⟩) hb hg hr).trans (hc i p hp).2⟩⟩
  rcases hw.row with h1 | ⟨k, h1, h2⟩
  · rw [h1]; exact hr
  · rw [h1]; intro e; injection e with e; omega
theorem LabAt.below {w w1 : World} {g : Nat} {r : Option Nat} {A : Option Addr} {l : List Pr} (h : LabAt w g r A l) (hb : Below w.heap.size w w1) : LabAt w1 g r A l := h.wrote (Wrote.of_below hb g r)
theorem LabAt.at_ {w : World} {g : Nat} {r : Option Nat} {A : Option Addr} {l : List Pr} {k : Nat} (h : LabAt w g r A l) (hk : k < l.length) : ∃ b o p, A = some ⟨b, o, none⟩ ∧ b < w.heap.size ∧ l[k]? = some p ∧ w.cell? ⟨b, o + k * 2, none⟩ = some (.string p.1) ∧ w.cell? ⟨b, o + k * 2 + 1, none⟩ = some (.string p.2) := by
  obtain ⟨b, o, e, hb, _, _, hc⟩ := h (by omega)
  have hg : l[k]? = some l[k] := List.getElem?_eq_getElem hk
  exact ⟨b, o, _, e, hb, hg, (hc k _ hg).1, (hc k _ hg).2⟩
/-- a Writer newer than the labels -/
theorem LabAt.of_rd {w : World} {g : Nat} {r : Option Nat} {A : Option Addr} {l : List Pr} {B : Nat} (h : RdP w B A l) (hB : B ≤ w.heap.size) (hg : B ≤ g) (hr : ∀ k, r = some k → g < k) : LabAt w g r A l := fun h0 => by
  obtain ⟨b, o, e, hb, hc⟩ := h h0
  exact ⟨b, o, e, by omega, by omega, fun e => by have := hr b e.symm; omega, hc⟩

theorem Wtr.row_lt {w : World} {g : Nat} {v : Value} {l : List Nat} (h : Wtr w g v l) {k : Nat} (e : v.ownBlock = some k) : k < w.heap.size := by
  exact (h.own.lt k e).2

set_option maxRecDepth 100000 in
set_option maxHeartbeats 1000000 in
theorem putGap_any (g : Nat) (v : Value) (l : List Nat) (x : It) (hx : OkI x) (w : World) (h : Wtr w g v l) (hl : l.length ≤ 2090000) :
    Calls Try.prog 120 #[.pointer (some ⟨g, 0, none⟩), .agg #[.int .u8 x.ga, .int .u64 x.gf, .int .u64 x.gt]] w fun e w' => e = .returned (.tuple #[]) ∧ Puts w w' g v (l ++ gapB x) := by
  have hba : Below w.heap.size w (w.alloc (.cells #[.int .u8 x.ga, .int .u64 x.gf, .int .u64 x.gt] 58)) := (Below.refl _ _).alloc (Nat.le_refl _) _
  have l1 := leb_le10 hx.gf
  have l2 := leb_le10 hx.gt
  have q1 := hx.gf
  have q2 := hx.gt
  have hgl := h.lt
  have H0 := Lib.hid (h.below hba)
  have R0 := Lib.hid (Wrote.of_below hba g v.ownBlock)
  have hg1 : w.heap.size ≠ g := by omega
  have hg2 : some w.heap.size ≠ v.ownBlock := fun e => by have := h.row_lt e.symm; omega
  have b1 : (w.alloc (.cells #[.int .u8 x.ga, .int .u64 x.gf, .int .u64 x.gt] 58)).cell? ⟨w.heap.size, 1, none⟩ = some (.int .u64 x.gf) := by rw [World.cell?_alloc_at _ _ _ _ rfl]; rfl
  have b2 : (w.alloc (.cells #[.int .u8 x.ga, .int .u64 x.gf, .int .u64 x.gt] 58)).cell? ⟨w.heap.size, 2, none⟩ = some (.int .u64 x.gt) := by rw [World.cell?_alloc_at _ _ _ _ rfl]; rfl
  have F : Hid (∀ W v2, Wrote (w.alloc (.cells #[.int .u8 x.ga, .int .u64 x.gf, .int .u64 x.gt] 58)) W g v.ownBlock v2 → W.cell? ⟨w.heap.size, 1, none⟩ = some (.int .u64 x.gf) ∧ W.cell? ⟨w.heap.size, 2, none⟩ = some (.int .u64 x.gt)) := fun W v2 hW =>
    ⟨(hW.cell (p := ⟨w.heap.size, 1, none⟩) (by simp) hg1 hg2).trans b1, (hW.cell (p := ⟨w.heap.size, 2, none⟩) (by simp) hg1 hg2).trans b2⟩
  clear h hba hx hg1 hg2 b1 b2
  go_enter Try.func120, Try.ntmps120
  go_wp2_with fail
  refine (wbyte_any g v l x.ga _ H0.out (by omega)).mono ?_
  rintro e w1 ⟨rfl, v1, h1, r1⟩
  have H1 := Lib.hid h1
  have R1 := Lib.hid r1
  obtain ⟨k1, k2⟩ := F.out _ _ r1
  clear h1 r1
  go_wp2_with fail
  refine (wuint_any g v1 _ x.gf q1 _ H1.out (by simp; omega)).mono ?_
  rintro e w2 ⟨rfl, v2, h1, r1⟩
  have H2 := Lib.hid h1
  have R2 := Lib.hid (R1.out.trans r1)
  clear h1 r1 k1 k2
  obtain ⟨k1, k2⟩ := F.out _ _ R2.out
  go_wp2_with fail
  refine (wuint_any g v2 _ x.gt q2 _ H2.out (by simp; omega)).mono ?_
  rintro e w3 ⟨rfl, v3, h1, r1⟩
  have H3 := Lib.hid h1
  have R3 := Lib.hid (R0.out.trans (R2.out.trans r1))
  clear h1 r1 k1 k2
  go_wp2
  go_end0
  refine ⟨rfl, v3, ?_, R3.out⟩
  have h1 := H3.out
  simp only [gapB, List.append_assoc] at h1 ⊢
  exact h1
end Go.Proofs.Ytgcfofnlgdfmoaa
/- Layer 4: the statements' own small item, whichever numbers. -/
namespace Go.Proofs.Ytgcfofnlgdfmoaa
open Go.RowKit

set_option maxRecDepth 100000 in
set_option maxHeartbeats 1000000 in
theorem smallGap_any (s : Sm) (hs : OkS s) (w : World) :
    Calls Try.prog 33 #[.agg #[.bool true, .int .u8 s.o, .int .u8 s.p, .int .u8 s.w, .int .u16 s.q, .int .u16 s.m, .int .u16 s.t, .int .u8 s.r, .int .u8 s.l, .int .u8 s.v, .bool s.s]] w fun e w' =>
      e = .returned (.agg #[.bool true, .int .u8 0, .int .u64 0, .int .u64 0, .string ⟨#[]⟩, .slice none 0 0, .int .u8 0, .int .u8 0, .int .i64 0, .int .u8 0, .int .u8 ((s.o : Int) % 32), .int .u64 (1 + (s.q : Int)), .int .u64 (1 + (s.q : Int) + (s.m : Int))]) ∧ Below w.heap.size w w' := by
  have q1 : (s.q : Int) < 65536 := by have := hs.q; omega
  have q2 : (s.m : Int) < 65536 := by have := hs.m; omega
  have hb0 : Below w.heap.size w ((w.alloc (.cells #[.bool true, .int .u8 s.o, .int .u8 s.p, .int .u8 s.w, .int .u16 s.q, .int .u16 s.m, .int .u16 s.t, .int .u8 s.r, .int .u8 s.l, .int .u8 s.v, .bool s.s] 51)).alloc (.cells #[.bool false, .int .u8 0, .int .u64 0, .int .u64 0, .string ⟨#[]⟩, .slice none 0 0, .int .u8 0, .int .u8 0, .int .i64 0, .int .u8 0, .int .u8 0, .int .u64 0, .int .u64 0] 60)) := ((Below.refl _ _).alloc (Nat.le_refl _) _).alloc (by simp) _
  have hre := heap_alloc2_new w (.cells #[.bool true, .int .u8 s.o, .int .u8 s.p, .int .u8 s.w, .int .u16 s.q, .int .u16 s.m, .int .u16 s.t, .int .u8 s.r, .int .u8 s.l, .int .u8 s.v, .bool s.s] 51) (.cells #[.bool false, .int .u8 0, .int .u64 0, .int .u64 0, .string ⟨#[]⟩, .slice none 0 0, .int .u8 0, .int .u8 0, .int .i64 0, .int .u8 0, .int .u8 0, .int .u64 0, .int .u64 0] 60)
  have HB := Lib.hid hb0
  have HR := Lib.hid hre
  clear hb0 hre
  go_enter Try.func33, Try.ntmps33
  go_wp2_with fail
  refine (gap_any _ _ _ _).mono ?_
  rintro e w1 ⟨rfl, hb1⟩
  have HR1 := Lib.hid ((hb1.block (w.heap.size + 1) (by simp)).trans HR.out)
  have HB1 := Lib.hid (HB.out.trans (hb1.mono HB.out.size))
  clear hb1
  go_wp2_with (refine wpList_store_row rfl _ _ _ rfl (w.heap.size + 1) _ rfl rfl _ _ HR1.out Try.infoI rfl (by simp [Value.oneCell']) ?_)
  refine bodyPost_ret (v := .agg #[.bool true, .int .u8 0, .int .u64 0, .int .u64 0, .string ⟨#[]⟩, .slice none 0 0, .int .u8 0, .int .u8 0, .int .i64 0, .int .u8 0, .int .u8 ((s.o : Int) % 32), .int .u64 (1 + (s.q : Int)), .int .u64 (1 + (s.q : Int) + (s.m : Int))]) ?_ rfl ⟨rfl, below_setRow HB1.out (by omega) _⟩
  exact results_cell_row rfl _ _ (w.heap.size + 1) _ _ _ _ rfl (setRow_heap _ _ _ _ _ _ HR1.out) Try.underlying60 rfl (by kernel_rfl)

/-- an item, and where its labels lie -/
def ItRet (x : It) (w : World) (e : Ending) (w' : World) : Prop :=
  ∃ A n c, e = .returned (.agg #[.bool x.g, .int .u8 x.o, .int .u64 x.q, .int .u64 x.t, .string x.r, .slice A n c, .int .u8 x.s, .int .u8 x.p, .int .i64 x.v, .int .u8 x.w, .int .u8 x.ga, .int .u64 x.gf, .int .u64 x.gt]) ∧ n = x.l.length ∧ w'.ownsRow w.heap.size 151 2 (.slice A n c) n (cellsP x.l) ∧ Below w.heap.size w w'

theorem smallItem_any (s : Sm) (hs : OkS s) (w : World) :
    Calls Try.prog 33 #[.agg #[.bool s.g, .int .u8 s.o, .int .u8 s.p, .int .u8 s.w, .int .u16 s.q, .int .u16 s.m, .int .u16 s.t, .int .u8 s.r, .int .u8 s.l, .int .u8 s.v, .bool s.s]] w (ItRet (smallI s) w) := by
  obtain ⟨b, hb⟩ : ∃ b, s.g = b := ⟨_, rfl⟩
  rw [hb]
  cases b with
  | true =>
    refine (smallGap_any s hs w).mono ?_
    rintro e w' ⟨rfl, hb'⟩
    have hI : smallI s = ⟨true, 0, 0, 0, ⟨#[]⟩, [], 0, 0, 0, 0, s.o % 32, 1 + s.q, 1 + s.q + s.m⟩ := if_pos hb
    refine ⟨none, 0, 0, ?_, by rw [hI]; rfl, by rw [hI]; exact World.ownsRow_nil _ _ _ _, hb'⟩
    rw [hI]
    push_cast
    rfl
  | false =>
    refine (smallEv_any s hs s.s rfl w).mono ?_
    rintro e w' ⟨A, c, rfl, ho, hb'⟩
    have hI : smallI s = ⟨false, s.o % 32, 1 + s.q, s.t, if s.w % 8 = 7 then ownX else ruleS s.r, labsS s (s.l % 4), if s.s then 2 else 0, s.p % 8, (s.v : Int) - 100, if s.w % 8 = 7 then 1 + s.w / 8 % 2 else 0, 0, 0, 0⟩ := if_neg (by rw [hb]; decide)
    refine ⟨A, s.l % 4, c, ?_, by rw [hI]; exact (labsS_length s _).symm, by rw [hI]; exact ho, hb'⟩
    rw [hI]
    have e1 : (((if s.s = true then 2 else 0 : Nat)) : Int) = if s.s = true then 2 else 0 := by split <;> rfl
    have e2 : (((if s.w % 8 = 7 then 1 + s.w / 8 % 2 else 0 : Nat)) : Int) = if s.w % 8 = 7 then 1 + (s.w : Int) / 8 % 2 else 0 := by split <;> simp
    simp only [e1, e2]
    push_cast
    rfl
end Go.Proofs.Ytgcfofnlgdfmoaa
