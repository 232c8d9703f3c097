/- Several texts in one: FrPut, CrcOnce. -/
import Derived.Deep.MidRow
import Derived.Defers
import Derived.Laws.Pointers
import Derived.Laws.LoneSync
import Derived.RegionTactic
import Derived.RegionCalls
import Derived.ChangeAlike
import Derived.Laws.NewBlocks
import Derived.Deep.RegionWith
import Derived.Test.YtnagmopejblegaaGreatMb15
import Derived.Test.YtnagmopejblegaaGreatMb16
import Derived.Test.YtnagmopejblegaaGreatMb22
/- Layer 5: frame.put. -/
namespace Go.Proofs.YtnagmopejblegaaGreat
open Go.RowKit

/-- a block that a Writer does not write to -/
theorem row_wrote {w w1 : World} {b g : Nat} {r r' : Option Nat} {o : Obj} (h : w.heap[b]? = some o) (hw : Wrote w w1 g r r') (hg : b ≠ g) (hr : some b ≠ r) : w1.heap[b]? = some o :=
  (hw.block b (Array.getElem?_eq_some_iff.1 h).1 hg hr).trans h
theorem item_range {w : World} {b : Nat} {x : Fr} {A : Option Addr} {n c : Nat} {t : TypeId} (h : w.heap[b]? = some (.cells #[.int .u8 x.k, .int .u8 x.f, .int .u8 x.t, .int .u64 x.e, .int .u64 x.q, .bool x.i.g, .int .u8 x.i.o, .int .u64 x.i.q, .int .u64 x.i.t, .string x.i.r, .slice A n c, .int .u8 x.i.s, .int .u8 x.i.p, .int .i64 x.i.v, .int .u8 x.i.w, .int .u8 x.i.ga, .int .u64 x.i.gf, .int .u64 x.i.gt, .int .u64 x.c, .int .u64 x.b, .int .u64 x.l] t (0, 0))) : w.rangeAt b 5 [.bool x.i.g, .int .u8 x.i.o, .int .u64 x.i.q, .int .u64 x.i.t, .string x.i.r, .slice A n c, .int .u8 x.i.s, .int .u8 x.i.p, .int .i64 x.i.v, .int .u8 x.i.w, .int .u8 x.i.ga, .int .u64 x.i.gf, .int .u64 x.i.gt] := fun j v hv => by
  rw [cell_of_row w b (5 + j) _ t _ h]
  match j, hv with
  | 0, hv | 1, hv | 2, hv | 3, hv | 4, hv | 5, hv | 6, hv | 7, hv | 8, hv | 9, hv | 10, hv | 11, hv | 12, hv => exact hv
theorem Tryz.infoI13 : (Tryz.prog.info? 40).map (·.size) = some 13 := by kernel_rfl
/-- a frame the bytes of whose item are short -/
structure ShortF (x : Fr) : Prop where
  i : ShortI x.i
  l : x.i.l.length ≤ 1048576
  b : (itemB x.i).length ≤ 1000000
theorem tailF_len {x : Fr} (hx : OkF x) (hs : ShortF x) : (tailF x).length ≤ 1000040 := by
  have h1 := leb_le10 hx.e
  have h2 := leb_le10 hx.q
  have h3 := leb_le10 hx.c
  have h4 := leb_le10 hx.b
  have h5 := leb_le10 hx.l
  have h6 := hs.b
  unfold tailF
  split
  · simp only [List.length_append]; omega
  · split
    · simp only [List.length_append]; omega
    · simp
theorem bodyF_len {x : Fr} (hx : OkF x) (hs : ShortF x) : (bodyF x).length ≤ 1000044 := by
  have := tailF_len hx hs
  simp only [bodyF, List.length_cons]; omega
theorem bodyF_ok {x : Fr} (hx : OkF x) (hs : ShortF x) : OkB (bodyF x) := by
  rw [bodyF_right]
  refine (okB_one (by decide)).append (OkB.nil.append ((okB_one hx.k).append ((okB_one hx.f).append ((okB_one hx.t).append ?_))))
  unfold tailF
  split
  · exact (okB_leb hx.e).append ((okB_leb hx.q).append (itemB_ok hx.i hs.i hs.l))
  · split
    · exact (okB_leb hx.e).append ((okB_leb hx.c).append ((okB_leb hx.b).append (okB_leb hx.l)))
    · exact OkB.nil

set_option maxRecDepth 100000 in
set_option maxHeartbeats 8000000 in
theorem fput_any (g : Nat) (v : Value) (x : Fr) (A : Option Addr) (n c : Nat) (hx : OkF x) (hs : ShortF x) (hn : n = x.i.l.length) (w : World) (h : Wtr w g v []) (hr : LabAt w g v.ownBlock A x.i.l) :
    Calls Tryz.prog 29 #[.pointer (some ⟨g, 0, none⟩), .agg #[.int .u8 x.k, .int .u8 x.f, .int .u8 x.t, .int .u64 x.e, .int .u64 x.q, .bool x.i.g, .int .u8 x.i.o, .int .u64 x.i.q, .int .u64 x.i.t, .string x.i.r, .slice A n c, .int .u8 x.i.s, .int .u8 x.i.p, .int .i64 x.i.v, .int .u8 x.i.w, .int .u8 x.i.ga, .int .u64 x.i.gf, .int .u64 x.i.gt, .int .u64 x.c, .int .u64 x.b, .int .u64 x.l]] w fun e w' => e = .returned (.tuple #[]) ∧ Puts w w' g v (bodyF x) := by
  have hgl := h.lt
  have hba : Below w.heap.size w (w.alloc (.cells #[.int .u8 x.k, .int .u8 x.f, .int .u8 x.t, .int .u64 x.e, .int .u64 x.q, .bool x.i.g, .int .u8 x.i.o, .int .u64 x.i.q, .int .u64 x.i.t, .string x.i.r, .slice A n c, .int .u8 x.i.s, .int .u8 x.i.p, .int .i64 x.i.v, .int .u8 x.i.w, .int .u8 x.i.ga, .int .u64 x.i.gf, .int .u64 x.i.gt, .int .u64 x.c, .int .u64 x.b, .int .u64 x.l] 42)) := (Below.refl _ _).alloc (Nat.le_refl _) _
  have hbr : Hid (some w.heap.size ≠ v.ownBlock) := fun e => by have := h.row_lt e.symm; omega
  have hne : Hid (w.heap.size ≠ g) := fun e => by omega
  have H0 := Lib.hid (h.below hba)
  have R0 := Lib.hid (Wrote.of_below hba g v.ownBlock)
  have L0 := Lib.hid (hr.below hba)
  have F : Hid (∀ W v2, Wrote (w.alloc (.cells #[.int .u8 x.k, .int .u8 x.f, .int .u8 x.t, .int .u64 x.e, .int .u64 x.q, .bool x.i.g, .int .u8 x.i.o, .int .u64 x.i.q, .int .u64 x.i.t, .string x.i.r, .slice A n c, .int .u8 x.i.s, .int .u8 x.i.p, .int .i64 x.i.v, .int .u8 x.i.w, .int .u8 x.i.ga, .int .u64 x.i.gf, .int .u64 x.i.gt, .int .u64 x.c, .int .u64 x.b, .int .u64 x.l] 42)) W g v.ownBlock v2 → W.heap[w.heap.size]? = some (.cells #[.int .u8 x.k, .int .u8 x.f, .int .u8 x.t, .int .u64 x.e, .int .u64 x.q, .bool x.i.g, .int .u8 x.i.o, .int .u64 x.i.q, .int .u64 x.i.t, .string x.i.r, .slice A n c, .int .u8 x.i.s, .int .u8 x.i.p, .int .i64 x.i.v, .int .u8 x.i.w, .int .u8 x.i.ga, .int .u64 x.i.gf, .int .u64 x.i.gt, .int .u64 x.c, .int .u64 x.b, .int .u64 x.l] 42 (0, 0))) := fun W v2 hW => row_wrote (heap_alloc_new _ _) hW hne.out hbr.out
  have Hx := Lib.hid hx
  have Hs := Lib.hid hs
  have Hn := Lib.hid hn
  have hil := hs.b
  have hnl : n ≤ 1048576 := by have := hs.l; omega
  have z1 := leb_le10 hx.e
  have z2 := leb_le10 hx.q
  have z3 := leb_le10 hx.c
  have z4 := leb_le10 hx.b
  have Q0 : Hid (Wrote (w.alloc (.cells #[.int .u8 x.k, .int .u8 x.f, .int .u8 x.t, .int .u64 x.e, .int .u64 x.q, .bool x.i.g, .int .u8 x.i.o, .int .u64 x.i.q, .int .u64 x.i.t, .string x.i.r, .slice A n c, .int .u8 x.i.s, .int .u8 x.i.p, .int .i64 x.i.v, .int .u8 x.i.w, .int .u8 x.i.ga, .int .u64 x.i.gf, .int .u64 x.i.gt, .int .u64 x.c, .int .u64 x.b, .int .u64 x.l] 42)) (w.alloc (.cells #[.int .u8 x.k, .int .u8 x.f, .int .u8 x.t, .int .u64 x.e, .int .u64 x.q, .bool x.i.g, .int .u8 x.i.o, .int .u64 x.i.q, .int .u64 x.i.t, .string x.i.r, .slice A n c, .int .u8 x.i.s, .int .u8 x.i.p, .int .i64 x.i.v, .int .u8 x.i.w, .int .u8 x.i.ga, .int .u64 x.i.gf, .int .u64 x.i.gt, .int .u64 x.c, .int .u64 x.b, .int .u64 x.l] 42)) g v.ownBlock v.ownBlock) := Wrote.refl _ _ _
  clear h hba hr hx hs hn hgl
  have end_ : ∀ (l : List Nat), l = bodyF x → ∀ w' v', Wtr w' g v' l → Wrote w w' g v.ownBlock v'.ownBlock → Puts w w' g v (bodyF x) := fun l hl w' v' h1 h2 => ⟨v', hl ▸ h1, h2⟩
  have hk : x.k = 1 ∨ x.k ≠ 1 := by omega
  go_enter Tryz.func29, Tryz.ntmps29
  go_wp2_with fail
  refine (wbyte_at g v [] 183 rfl _ H0.out (by simp)).mono ?_
  rintro e w1 ⟨rfl, v1, h1, r1⟩
  have H1 := Lib.hid h1
  have R1 := Lib.hid (R0.out.trans r1)
  have Q1 := Lib.hid (Q0.out.trans r1)
  have L1 := Lib.hid (L0.out.wrote r1)
  clear h1 r1 H0 R0 Q0 L0
  have hX1 := F.out _ _ Q1.out
  have c0 : w1.cell? ⟨w.heap.size, 0, none⟩ = some (.int .u8 x.k) := cell_of_row _ _ 0 _ _ _ hX1
  clear hX1
  go_wp2_with fail
  refine (wbyte_any g v1 _ x.k _ H1.out (by simp)).mono ?_
  rintro e w2 ⟨rfl, v2, h2, r2⟩
  have H2 := Lib.hid h2
  have R2 := Lib.hid (R1.out.trans r2)
  have Q2 := Lib.hid (Q1.out.trans r2)
  have L2 := Lib.hid (L1.out.wrote r2)
  clear h2 r2 H1 R1 Q1 L1 c0
  have hX2 := F.out _ _ Q2.out
  have c1 : w2.cell? ⟨w.heap.size, 1, none⟩ = some (.int .u8 x.f) := cell_of_row _ _ 1 _ _ _ hX2
  clear hX2
  go_wp2_with fail
  refine (wbyte_any g v2 _ x.f _ H2.out (by simp)).mono ?_
  rintro e w3 ⟨rfl, v3, h3, r3⟩
  have H3 := Lib.hid h3
  have R3 := Lib.hid (R2.out.trans r3)
  have Q3 := Lib.hid (Q2.out.trans r3)
  have L3 := Lib.hid (L2.out.wrote r3)
  clear h3 r3 H2 R2 Q2 L2 c1
  have hX3 := F.out _ _ Q3.out
  have c2 : w3.cell? ⟨w.heap.size, 2, none⟩ = some (.int .u8 x.t) := cell_of_row _ _ 2 _ _ _ hX3
  clear hX3
  go_wp2_with fail
  refine (wbyte_any g v3 _ x.t _ H3.out (by simp)).mono ?_
  rintro e w4 ⟨rfl, v4, h4, r4⟩
  have H4 := Lib.hid h4
  have R4 := Lib.hid (R3.out.trans r4)
  have Q4 := Lib.hid (Q3.out.trans r4)
  have L4 := Lib.hid (L3.out.wrote r4)
  clear h4 r4 H3 R3 Q3 L3 c2
  have hX4 := F.out _ _ Q4.out
  have c0 : w4.cell? ⟨w.heap.size, 0, none⟩ = some (.int .u8 x.k) := cell_of_row _ _ 0 _ _ _ hX4
  have c3 : w4.cell? ⟨w.heap.size, 3, none⟩ = some (.int .u64 x.e) := cell_of_row _ _ 3 _ _ _ hX4
  clear hX4
  by_cases h1 : x.k = 1
  case pos =>
    have m1 : ((x.k : Int) == 1) = true := by rw [beq_iff_eq]; omega
    have HT : Hid (bodyF x = [183, x.k, x.f, x.t] ++ leb x.e ++ leb x.q ++ itemB x.i) := by show _ = _; unfold bodyF tailF; rw [if_pos h1]; simp
    clear h1 hk
    go_wp2_with fail
    refine (wuint_any g v4 _ x.e Hx.out.e _ H4.out (by simp)).mono ?_
    rintro e w5 ⟨rfl, v5, h5, r5⟩
    have H5 := Lib.hid h5
    have R5 := Lib.hid (R4.out.trans r5)
    have Q5 := Lib.hid (Q4.out.trans r5)
    have L5 := Lib.hid (L4.out.wrote r5)
    clear h5 r5 H4 R4 Q4 L4 c0 c3
    have hX5 := F.out _ _ Q5.out
    have c4 : w5.cell? ⟨w.heap.size, 4, none⟩ = some (.int .u64 x.q) := cell_of_row _ _ 4 _ _ _ hX5
    clear hX5
    go_wp2_with fail
    refine (wuint_any g v5 _ x.q Hx.out.q _ H5.out (by simp; omega)).mono ?_
    rintro e w6 ⟨rfl, v6, h6, r6⟩
    have H6 := Lib.hid h6
    have R6 := Lib.hid (R5.out.trans r6)
    have Q6 := Lib.hid (Q5.out.trans r6)
    have L6 := Lib.hid (L5.out.wrote r6)
    clear h6 r6 H5 R5 Q5 L5 c4
    have hX6 := F.out _ _ Q6.out
    have hrg6 := item_range hX6
    clear hX6
    go_wp2_with (first | (refine wpList_load_mid rfl _ _ rfl w.heap.size 5 rfl _ _ hrg6 Tryz.underlying40 rfl Tryz.infoI13 ?_) | fail)
    clear hrg6
    refine (iput_any g v6 _ x.i A n c Hx.out.i Hs.out.i Hn.out hnl _ H6.out (by simp; omega) L6.out).mono ?_
    rintro e w7 ⟨rfl, v7, h7, r7⟩
    have H7 := Lib.hid h7
    have R7 := Lib.hid (R6.out.trans r7)
    have Q7 := Lib.hid (Q6.out.trans r7)
    have L7 := Lib.hid (L6.out.wrote r7)
    clear h7 r7 H6 R6 Q6 L6
    go_wp2
    go_end0
    exact ⟨rfl, end_ _ (by rw [HT.out]; simp) _ _ H7.out R7.out⟩
  have m1 : ((x.k : Int) == 1) = false := by rw [beq_eq_false_iff_ne]; omega
  by_cases h2 : x.k = 2
  case pos =>
    have m2 : ((x.k : Int) == 2) = true := by rw [beq_iff_eq]; omega
    have HT : Hid (bodyF x = [183, x.k, x.f, x.t] ++ leb x.e ++ leb x.c ++ leb x.b ++ leb x.l) := by show _ = _; unfold bodyF tailF; rw [if_neg h1, if_pos h2]; simp
    clear h1 h2 hk
    go_wp2_with fail
    refine (wuint_any g v4 _ x.e Hx.out.e _ H4.out (by simp)).mono ?_
    rintro e w5 ⟨rfl, v5, h5, r5⟩
    have H5 := Lib.hid h5
    have R5 := Lib.hid (R4.out.trans r5)
    have Q5 := Lib.hid (Q4.out.trans r5)
    have L5 := Lib.hid (L4.out.wrote r5)
    clear h5 r5 H4 R4 Q4 L4 c0 c3
    have hX5 := F.out _ _ Q5.out
    have c18 : w5.cell? ⟨w.heap.size, 18, none⟩ = some (.int .u64 x.c) := cell_of_row _ _ 18 _ _ _ hX5
    clear hX5
    go_wp2_with fail
    refine (wuint_any g v5 _ x.c Hx.out.c _ H5.out (by simp; omega)).mono ?_
    rintro e w6 ⟨rfl, v6, h6, r6⟩
    have H6 := Lib.hid h6
    have R6 := Lib.hid (R5.out.trans r6)
    have Q6 := Lib.hid (Q5.out.trans r6)
    have L6 := Lib.hid (L5.out.wrote r6)
    clear h6 r6 H5 R5 Q5 L5 c18
    have hX6 := F.out _ _ Q6.out
    have c19 : w6.cell? ⟨w.heap.size, 19, none⟩ = some (.int .u64 x.b) := cell_of_row _ _ 19 _ _ _ hX6
    clear hX6
    go_wp2_with fail
    refine (wuint_any g v6 _ x.b Hx.out.b _ H6.out (by simp; omega)).mono ?_
    rintro e w7 ⟨rfl, v7, h7, r7⟩
    have H7 := Lib.hid h7
    have R7 := Lib.hid (R6.out.trans r7)
    have Q7 := Lib.hid (Q6.out.trans r7)
    have L7 := Lib.hid (L6.out.wrote r7)
    clear h7 r7 H6 R6 Q6 L6 c19
    have hX7 := F.out _ _ Q7.out
    have c20 : w7.cell? ⟨w.heap.size, 20, none⟩ = some (.int .u64 x.l) := cell_of_row _ _ 20 _ _ _ hX7
    clear hX7
    go_wp2_with fail
    refine (wuint_any g v7 _ x.l Hx.out.l _ H7.out (by simp; omega)).mono ?_
    rintro e w8 ⟨rfl, v8, h8, r8⟩
    have H8 := Lib.hid h8
    have R8 := Lib.hid (R7.out.trans r8)
    have Q8 := Lib.hid (Q7.out.trans r8)
    have L8 := Lib.hid (L7.out.wrote r8)
    clear h8 r8 H7 R7 Q7 L7 c20
    go_wp2
    go_end0
    exact ⟨rfl, end_ _ (by rw [HT.out]; simp) _ _ H8.out R8.out⟩
  have m2 : ((x.k : Int) == 2) = false := by rw [beq_eq_false_iff_ne]; omega
  have HT : Hid (bodyF x = [183, x.k, x.f, x.t]) := by show _ = _; unfold bodyF tailF; rw [if_neg h1, if_neg h2]
  clear h1 h2 hk
  go_wp2
  go_end0
  exact ⟨rfl, end_ _ (by rw [HT.out]; simp) _ _ H4.out R4.out⟩

end Go.Proofs.YtnagmopejblegaaGreat
/- Layer 2: the parts of a table: its lock, what is done once, its counters, one goroutine; the filling of the table. -/
namespace Go.Proofs.YtnagmopejblegaaGreat
open Go.RowKit

theorem disable_ (w : World) : (callFunc 102 #[]).run Tryz.prog w = .ok (.value (.tuple #[])) w := run_call_mark0 Tryz.func102 (by kernel_rfl) (by kernel_rfl) (by kernel_rfl) .disable (by kernel_rfl) w
theorem enable_ (w : World) : (callFunc 104 #[]).run Tryz.prog w = .ok (.value (.tuple #[])) w := run_call_mark0 Tryz.func104 (by kernel_rfl) (by kernel_rfl) (by kernel_rfl) .enable (by kernel_rfl) w
theorem acquire_ (a : Addr) (w : World) : (callFunc 105 #[.pointer (some a)]).run Tryz.prog w = .ok (.value (.tuple #[])) w := run_call_marked Tryz.func105 (by kernel_rfl) (by kernel_rfl) (by kernel_rfl) .acquire (by kernel_rfl) a w
theorem releaseMerge_ (a : Addr) (w : World) : (callFunc 107 #[.pointer (some a)]).run Tryz.prog w = .ok (.value (.tuple #[])) w := run_call_marked Tryz.func107 (by kernel_rfl) (by kernel_rfl) (by kernel_rfl) .releaseMerge (by kernel_rfl) a w

set_option maxRecDepth 100000 in
/-- the store of 'done', as a deferred call -/
theorem store_deferred (a : Addr) (x : Value) (u : FrameMode) (w : World) (hc : w.cell? a = some x) (hz : w.frozen? a = false) :
    CallsD Tryz.prog 87 #[.pointer (some a), .bool true] u w fun e u' w' => u' = u ∧ (e = .returned (.tuple #[]) ∧ w' = w.drew.setCell a (.int .u32 1)) := by
  have hc' : w.drew.cell? a = some x := by go_simp
  have hz' : w.drew.frozen? a = false := by go_simp
  have hst := run_call_store (P := Tryz.prog) Tryz.func94 (by kernel_rfl) (by kernel_rfl) (by kernel_rfl) (by kernel_rfl) (k := .u32) (y := 1) hc' hz'
  go_enter_d Tryz.func87, Tryz.ntmps87
  go_wp2
  go_region_calls
  all_goals (go_end0; exact ⟨rfl, rfl⟩)

set_option maxRecDepth 100000 in
/-- the lock let go, as a deferred call -/
theorem unlock_deferred (a : Addr) (u : FrameMode) (w : World) (hc : w.cell? a = some (.int .i32 1)) (hz : w.frozen? a = false) :
    CallsD Tryz.prog 86 #[.pointer (some a)] u w fun e u' w' => u' = u ∧ (e = .returned (.tuple #[]) ∧ w' = w.setCell a (.int .i32 0)) := by
  have hd := disable_
  have he := enable_
  have hr := releaseMerge_
  have hadd := run_call_add (P := Tryz.prog) Tryz.func108 (by kernel_rfl) (by kernel_rfl) (by kernel_rfl) .i32 (by kernel_rfl) (y := -1) (s := 0) hc hz (by simp [go_sem]; rfl)
  have hcv := run_convert_to_unsafe (P := Tryz.prog) (src := 154) (dst := 158) Tryz.underlying154 Tryz.underlying158 (by kernel_rfl) hc
  go_enter_d Tryz.func86, Tryz.ntmps86
  go_wp2
  go_end0
  go_wp2
  go_end0
  exact ⟨rfl, rfl⟩

set_option maxRecDepth 100000 in
/-- the lock taken, it being free -/
theorem lock_free (a : Addr) (w : World) (hc : w.cell? a = some (.int .i32 0)) (hz : w.frozen? a = false) :
    Calls Tryz.prog 85 #[.pointer (some a)] w fun e w' => e = .returned (.tuple #[]) ∧ w' = w.setCell a (.int .i32 1) := by
  have hd := disable_
  have he := enable_
  have ha := acquire_
  have hcas := run_call_cas_hit (P := Tryz.prog) Tryz.func103 (by kernel_rfl) (by kernel_rfl) (by kernel_rfl) .i32 (by kernel_rfl) (y := 1) hc hz
  have hc' : (w.setCell a (.int .i32 1)).cell? a = some (.int .i32 1) := World.cell?_setCell_same w a _ hc
  have hcv := run_convert_to_unsafe (P := Tryz.prog) (src := 154) (dst := 158) Tryz.underlying154 Tryz.underlying158 (by kernel_rfl) hc'
  go_enter Tryz.func85, Tryz.ntmps85
  go_wp2
  first | go_end0 | (simp only [Exit.inBlock, Exit.then]; refine bodyPost_ret (results_none rfl _ _ _) rfl ?_) | refine bodyPost_ret (results_none rfl _ _ _) rfl ?_
  go_wp2
  go_end0
  exact ⟨rfl, rfl⟩

/-- a counter, raised -/
theorem count_add (b o : Nat) (x y : Nat) (w : World) (hx : x + y < 18446744073709551616) (hc : w.cell? ⟨b, o, none⟩ = some (.int .u64 x)) (hz : w.frozen? ⟨b, o, none⟩ = false) :
    Calls Tryz.prog 35 #[.pointer (some ⟨b, o, none⟩), .int .u64 y] w fun e w' => e = .returned (.int .u64 (x + y : Nat)) ∧ w' = w.setCell ⟨b, o, none⟩ (.int .u64 (x + y : Nat)) := by
  have hadd := run_call_add (P := Tryz.prog) Tryz.func59 (by kernel_rfl) (by kernel_rfl) (by kernel_rfl) .u64 (by kernel_rfl) (y := y) (s := (x + y : Nat)) hc hz (by simp [go_sem, IntKind.wrap_u64]; omega)
  go_enter Tryz.func35, Tryz.ntmps35
  go_wp2
  go_ret
  exact ⟨rfl, rfl⟩
end Go.Proofs.YtnagmopejblegaaGreat
