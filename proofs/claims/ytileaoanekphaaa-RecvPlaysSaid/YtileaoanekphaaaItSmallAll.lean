/- Layer 4: the statements' own small item, whichever numbers. -/
import Derived.Test.YtileaoanekphaaaItSmallRun
import Derived.Test.YtileaoanekphaaaItPut
namespace Go.Proofs.Ytileaoanekphaaa
open Go.RowKit

set_option maxRecDepth 100000 in
set_option maxHeartbeats 1000000 in
theorem smallGap_any (s : Sm) (hs : OkS s) (w : World) :
    Calls Try.prog 11 #[.agg #[.bool true, .int .u8 s.o, .int .u8 s.p, .int .u8 s.w, .int .u16 s.q, .int .u16 s.m, .int .u16 s.t, .int .u8 s.r, .int .u8 s.l, .int .u8 s.v, .bool s.s]] w fun e w' =>
      e = .returned (.agg #[.bool true, .int .u8 0, .int .u64 0, .int .u64 0, .string ⟨#[]⟩, .slice none 0 0, .int .u8 0, .int .u8 0, .int .i64 0, .int .u8 0, .int .u8 ((s.o : Int) % 32), .int .u64 (1 + (s.q : Int)), .int .u64 (1 + (s.q : Int) + (s.m : Int))]) ∧ Below w.heap.size w w' := by
  have q1 : (s.q : Int) < 65536 := by have := hs.q; omega
  have q2 : (s.m : Int) < 65536 := by have := hs.m; omega
  have hb0 : Below w.heap.size w ((w.alloc (.cells #[.bool true, .int .u8 s.o, .int .u8 s.p, .int .u8 s.w, .int .u16 s.q, .int .u16 s.m, .int .u16 s.t, .int .u8 s.r, .int .u8 s.l, .int .u8 s.v, .bool s.s] 35)).alloc (.cells #[.bool false, .int .u8 0, .int .u64 0, .int .u64 0, .string ⟨#[]⟩, .slice none 0 0, .int .u8 0, .int .u8 0, .int .i64 0, .int .u8 0, .int .u8 0, .int .u64 0, .int .u64 0] 43)) := ((Below.refl _ _).alloc (Nat.le_refl _) _).alloc (by simp) _
  have hre := heap_alloc2_new w (.cells #[.bool true, .int .u8 s.o, .int .u8 s.p, .int .u8 s.w, .int .u16 s.q, .int .u16 s.m, .int .u16 s.t, .int .u8 s.r, .int .u8 s.l, .int .u8 s.v, .bool s.s] 35) (.cells #[.bool false, .int .u8 0, .int .u64 0, .int .u64 0, .string ⟨#[]⟩, .slice none 0 0, .int .u8 0, .int .u8 0, .int .i64 0, .int .u8 0, .int .u8 0, .int .u64 0, .int .u64 0] 43)
  have HB := Lib.hid hb0
  have HR := Lib.hid hre
  clear hb0 hre
  go_enter Try.func11, Try.ntmps11
  go_wp2_with fail
  refine (gap_any _ _ _ _).mono ?_
  rintro e w1 ⟨rfl, hb1⟩
  have HR1 := Lib.hid ((hb1.block (w.heap.size + 1) (by simp)).trans HR.out)
  have HB1 := Lib.hid (HB.out.trans (hb1.mono HB.out.size))
  clear hb1
  go_wp2_with (refine wpList_store_row rfl _ _ _ rfl (w.heap.size + 1) _ rfl rfl _ _ HR1.out Try.infoI rfl (by simp [Value.oneCell']) ?_)
  refine bodyPost_ret (v := .agg #[.bool true, .int .u8 0, .int .u64 0, .int .u64 0, .string ⟨#[]⟩, .slice none 0 0, .int .u8 0, .int .u8 0, .int .i64 0, .int .u8 0, .int .u8 ((s.o : Int) % 32), .int .u64 (1 + (s.q : Int)), .int .u64 (1 + (s.q : Int) + (s.m : Int))]) ?_ rfl ⟨rfl, below_setRow HB1.out (by omega) _⟩
  exact results_cell_row rfl _ _ (w.heap.size + 1) _ _ _ _ rfl (setRow_heap _ _ _ _ _ _ HR1.out) Try.underlying43 rfl (by kernel_rfl)

/-- an item, and where its labels lie -/
def ItRet (x : It) (w : World) (e : Ending) (w' : World) : Prop :=
  ∃ A n c, e = .returned (.agg #[.bool x.g, .int .u8 x.o, .int .u64 x.q, .int .u64 x.t, .string x.r, .slice A n c, .int .u8 x.s, .int .u8 x.p, .int .i64 x.v, .int .u8 x.w, .int .u8 x.ga, .int .u64 x.gf, .int .u64 x.gt]) ∧ n = x.l.length ∧ w'.ownsRow w.heap.size 66 2 (.slice A n c) n (cellsP x.l) ∧ Below w.heap.size w w'

theorem smallItem_any (s : Sm) (hs : OkS s) (w : World) :
    Calls Try.prog 11 #[.agg #[.bool s.g, .int .u8 s.o, .int .u8 s.p, .int .u8 s.w, .int .u16 s.q, .int .u16 s.m, .int .u16 s.t, .int .u8 s.r, .int .u8 s.l, .int .u8 s.v, .bool s.s]] w (ItRet (smallI s) w) := by
  obtain ⟨b, hb⟩ : ∃ b, s.g = b := ⟨_, rfl⟩
  rw [hb]
  cases b with
  | true =>
    refine (smallGap_any s hs w).mono ?_
    rintro e w' ⟨rfl, hb'⟩
    have hI : smallI s = ⟨true, 0, 0, 0, ⟨#[]⟩, [], 0, 0, 0, 0, s.o % 32, 1 + s.q, 1 + s.q + s.m⟩ := if_pos hb
    refine ⟨none, 0, 0, ?_, by rw [hI]; rfl, by rw [hI]; exact World.ownsRow_nil _ _ _ _, hb'⟩
    rw [hI]
    push_cast
    rfl
  | false =>
    refine (smallEv_any s hs s.s rfl w).mono ?_
    rintro e w' ⟨A, c, rfl, ho, hb'⟩
    have hI : smallI s = ⟨false, s.o % 32, 1 + s.q, s.t, if s.w % 8 = 7 then ownX else ruleS s.r, labsS s (s.l % 4), if s.s then 2 else 0, s.p % 8, (s.v : Int) - 100, if s.w % 8 = 7 then 1 + s.w / 8 % 2 else 0, 0, 0, 0⟩ := if_neg (by rw [hb]; decide)
    refine ⟨A, s.l % 4, c, ?_, by rw [hI]; exact (labsS_length s _).symm, by rw [hI]; exact ho, hb'⟩
    rw [hI]
    have e1 : (((if s.s = true then 2 else 0 : Nat)) : Int) = if s.s = true then 2 else 0 := by split <;> rfl
    have e2 : (((if s.w % 8 = 7 then 1 + s.w / 8 % 2 else 0 : Nat)) : Int) = if s.w % 8 = 7 then 1 + (s.w : Int) / 8 % 2 else 0 := by split <;> simp
    simp only [e1, e2]
    push_cast
    rfl
end Go.Proofs.Ytileaoanekphaaa
