/- Several texts in one: ItJoin, ItCheck. -/
import Derived.Test.YtgcfofnlgdfmoaaMf4
import Derived.Test.YtgcfofnlgdfmoaaMf8
import Derived.Test.YtgcfofnlgdfmoaaMf16
/- Layer 4: item.Join. -/
namespace Go.Proofs.Ytgcfofnlgdfmoaa
open Go.RowKit

/-- may two items be joined? -/
def joinB (x y : It) : Bool := x.g && y.g && decide (x.ga = y.ga ∧ 0 < y.gf ∧ y.gf - 1 = x.gt ∧ y.gf ≤ y.gt)
def joinI (x y : It) : It := if joinB x y then ⟨true, 0, 0, 0, ⟨#[]⟩, [], 0, 0, 0, 0, x.ga, x.gf, y.gt⟩ else zeroI

/-- an item without labels, and a yes or no -/
def TwoNone (y : It) (b : Bool) (w : World) (e : Ending) (w' : World) : Prop :=
  e = .returned (.tuple #[.agg #[.bool y.g, .int .u8 y.o, .int .u64 y.q, .int .u64 y.t, .string y.r, .slice none 0 0, .int .u8 y.s, .int .u8 y.p, .int .i64 y.v, .int .u8 y.w, .int .u8 y.ga, .int .u64 y.gf, .int .u64 y.gt], .bool b]) ∧ Below w.heap.size w w'

set_option maxRecDepth 100000 in
set_option maxHeartbeats 2000000 in
theorem join_new (x y : It) (hy : OkI y) (A : Option Addr) (n c : Nat) (A2 : Option Addr) (n2 c2 : Nat) (w : World) :
    Calls Try.prog 105 #[.agg #[.bool x.g, .int .u8 x.o, .int .u64 x.q, .int .u64 x.t, .string x.r, .slice A n c, .int .u8 x.s, .int .u8 x.p, .int .i64 x.v, .int .u8 x.w, .int .u8 x.ga, .int .u64 x.gf, .int .u64 x.gt], .agg #[.bool y.g, .int .u8 y.o, .int .u64 y.q, .int .u64 y.t, .string y.r, .slice A2 n2 c2, .int .u8 y.s, .int .u8 y.p, .int .i64 y.v, .int .u8 y.w, .int .u8 y.ga, .int .u64 y.gf, .int .u64 y.gt]] w (TwoNone (joinI x y) (joinB x y) w) := by
  obtain ⟨W, hW⟩ : ∃ W, W = (((w.alloc (.cells #[.bool x.g, .int .u8 x.o, .int .u64 x.q, .int .u64 x.t, .string x.r, .slice A n c, .int .u8 x.s, .int .u8 x.p, .int .i64 x.v, .int .u8 x.w, .int .u8 x.ga, .int .u64 x.gf, .int .u64 x.gt] 60)).alloc (.cells #[.bool y.g, .int .u8 y.o, .int .u64 y.q, .int .u64 y.t, .string y.r, .slice A2 n2 c2, .int .u8 y.s, .int .u8 y.p, .int .i64 y.v, .int .u8 y.w, .int .u8 y.ga, .int .u64 y.gf, .int .u64 y.gt] 60)).alloc (.cells #[.bool false, .int .u8 0, .int .u64 0, .int .u64 0, .string ⟨#[]⟩, .slice none 0 0, .int .u8 0, .int .u8 0, .int .i64 0, .int .u8 0, .int .u8 0, .int .u64 0, .int .u64 0] 60)) := ⟨_, rfl⟩
  have hb : Below w.heap.size w W := by rw [hW]; exact (((Below.refl _ _).alloc (Nat.le_refl _) _).alloc (by simp) _).alloc (by simp; omega) _
  have hz : W.heap.size = w.heap.size + 3 := by rw [hW]; simp
  have h0 : W.heap[w.heap.size]? = some (.cells #[.bool x.g, .int .u8 x.o, .int .u64 x.q, .int .u64 x.t, .string x.r, .slice A n c, .int .u8 x.s, .int .u8 x.p, .int .i64 x.v, .int .u8 x.w, .int .u8 x.ga, .int .u64 x.gf, .int .u64 x.gt] 60 (0, 0)) := by rw [hW, heap_alloc_old _ _ (by simp; omega)]; exact heap_alloc2_old _ _ _
  have h1 : W.heap[w.heap.size + 1]? = some (.cells #[.bool y.g, .int .u8 y.o, .int .u64 y.q, .int .u64 y.t, .string y.r, .slice A2 n2 c2, .int .u8 y.s, .int .u8 y.p, .int .i64 y.v, .int .u8 y.w, .int .u8 y.ga, .int .u64 y.gf, .int .u64 y.gt] 60 (0, 0)) := by rw [hW, heap_alloc_old _ _ (by simp)]; exact heap_alloc2_new _ _ _
  have h2 : W.heap[w.heap.size + 2]? = some (.cells #[.bool false, .int .u8 0, .int .u64 0, .int .u64 0, .string ⟨#[]⟩, .slice none 0 0, .int .u8 0, .int .u8 0, .int .i64 0, .int .u8 0, .int .u8 0, .int .u64 0, .int .u64 0] 60 (0, 0)) := by
    rw [hW]
    have h := heap_alloc_new ((w.alloc (.cells #[.bool x.g, .int .u8 x.o, .int .u64 x.q, .int .u64 x.t, .string x.r, .slice A n c, .int .u8 x.s, .int .u8 x.p, .int .i64 x.v, .int .u8 x.w, .int .u8 x.ga, .int .u64 x.gf, .int .u64 x.gt] 60)).alloc (.cells #[.bool y.g, .int .u8 y.o, .int .u64 y.q, .int .u64 y.t, .string y.r, .slice A2 n2 c2, .int .u8 y.s, .int .u8 y.p, .int .i64 y.v, .int .u8 y.w, .int .u8 y.ga, .int .u64 y.gf, .int .u64 y.gt] 60)) (.cells #[.bool false, .int .u8 0, .int .u64 0, .int .u64 0, .string ⟨#[]⟩, .slice none 0 0, .int .u8 0, .int .u8 0, .int .i64 0, .int .u8 0, .int .u8 0, .int .u64 0, .int .u64 0] 60)
    simpa using h
  have x0 : W.cell? ⟨w.heap.size, 0, none⟩ = some (.bool x.g) := cell_of_row _ _ 0 _ _ _ h0
  have x10 : W.cell? ⟨w.heap.size, 10, none⟩ = some (.int .u8 x.ga) := cell_of_row _ _ 10 _ _ _ h0
  have x11 : W.cell? ⟨w.heap.size, 11, none⟩ = some (.int .u64 x.gf) := cell_of_row _ _ 11 _ _ _ h0
  have x12 : W.cell? ⟨w.heap.size, 12, none⟩ = some (.int .u64 x.gt) := cell_of_row _ _ 12 _ _ _ h0
  have y0 : W.cell? ⟨w.heap.size + 1, 0, none⟩ = some (.bool y.g) := cell_of_row _ _ 0 _ _ _ h1
  have y10 : W.cell? ⟨w.heap.size + 1, 10, none⟩ = some (.int .u8 y.ga) := cell_of_row _ _ 10 _ _ _ h1
  have y11 : W.cell? ⟨w.heap.size + 1, 11, none⟩ = some (.int .u64 y.gf) := cell_of_row _ _ 11 _ _ _ h1
  have y12 : W.cell? ⟨w.heap.size + 1, 12, none⟩ = some (.int .u64 y.gt) := cell_of_row _ _ 12 _ _ _ h1
  have HB := Lib.hid hb
  have HW := Lib.hid hW
  have HZ := Lib.hid hz
  have H2 := Lib.hid h2
  have l1 := hy.gf
  have l2 := hy.gt
  clear hb hz h0 h1 h2 hW hy
  have HN : joinB x y = false → Hid (joinI x y = zeroI) := fun h => by show _ = _; unfold joinI; rw [h]; rfl
  by_cases g1 : x.g = false
  case' pos =>
    rw [g1] at x0
    have hj : joinB x y = false := by unfold joinB; rw [g1]; rfl
    have HI := HN hj
    have HJ := Lib.hid hj
    clear HN hj
    clear g1
    go_enter Try.func105, Try.ntmps105
    go_upto_region 1 with fail
    rw [← HW.out]
    go_upto_region 2 with fail
    go_wp2_with (refine wpList_store_row rfl _ _ _ rfl (w.heap.size + 2) _ rfl rfl _ _ H2.out Try.infoI rfl (by simp [Value.oneCell']) ?_)
    refine bodyPost_ret (v := .tuple #[.agg #[.bool false, .int .u8 0, .int .u64 0, .int .u64 0, .string ⟨#[]⟩, .slice none 0 0, .int .u8 0, .int .u8 0, .int .i64 0, .int .u8 0, .int .u8 0, .int .u64 0, .int .u64 0], .bool false]) ?_ rfl ⟨?_, ?_⟩
    · exact results_cell_two rfl _ _ (w.heap.size + 2) _ _ _ _ rfl rfl (setRow_heap _ _ _ _ _ _ H2.out) Try.underlying60 rfl (by kernel_rfl)
    · rw [HI.out, HJ.out]; rfl
    · exact below_setRow HB.out (by omega) _
  case' neg =>
    rw [Bool.not_eq_false] at g1
    rw [g1] at x0
    by_cases g2 : y.g = false
    case' pos =>
      rw [g2] at y0
      have hj : joinB x y = false := by unfold joinB; rw [g1, g2]; rfl
      have HI := HN hj
      have HJ := Lib.hid hj
      clear HN hj
      clear g1 g2
      go_enter Try.func105, Try.ntmps105
      go_upto_region 1 with fail
      rw [← HW.out]
      go_upto_region 2 with fail
      go_wp2_with (refine wpList_store_row rfl _ _ _ rfl (w.heap.size + 2) _ rfl rfl _ _ H2.out Try.infoI rfl (by simp [Value.oneCell']) ?_)
      refine bodyPost_ret (v := .tuple #[.agg #[.bool false, .int .u8 0, .int .u64 0, .int .u64 0, .string ⟨#[]⟩, .slice none 0 0, .int .u8 0, .int .u8 0, .int .i64 0, .int .u8 0, .int .u8 0, .int .u64 0, .int .u64 0], .bool false]) ?_ rfl ⟨?_, ?_⟩
      · exact results_cell_two rfl _ _ (w.heap.size + 2) _ _ _ _ rfl rfl (setRow_heap _ _ _ _ _ _ H2.out) Try.underlying60 rfl (by kernel_rfl)
      · rw [HI.out, HJ.out]; rfl
      · exact below_setRow HB.out (by omega) _
    case' neg =>
      rw [Bool.not_eq_false] at g2
      rw [g2] at y0
      by_cases g3 : x.ga = y.ga
      case' neg =>
        have q3 : ((x.ga : Int) != (y.ga : Int)) = true := by rw [bne_iff_ne]; omega
        have hj : joinB x y = false := by unfold joinB; rw [decide_eq_false (fun e => g3 e.1)]; simp
        have HI := HN hj
        have HJ := Lib.hid hj
        clear HN hj
        clear g3 l1 l2
        clear g1 g2
        go_enter Try.func105, Try.ntmps105
        go_upto_region 1 with fail
        rw [← HW.out]
        go_upto_region 2 with fail
        go_wp2_with (refine wpList_store_row rfl _ _ _ rfl (w.heap.size + 2) _ rfl rfl _ _ H2.out Try.infoI rfl (by simp [Value.oneCell']) ?_)
        refine bodyPost_ret (v := .tuple #[.agg #[.bool false, .int .u8 0, .int .u64 0, .int .u64 0, .string ⟨#[]⟩, .slice none 0 0, .int .u8 0, .int .u8 0, .int .i64 0, .int .u8 0, .int .u8 0, .int .u64 0, .int .u64 0], .bool false]) ?_ rfl ⟨?_, ?_⟩
        · exact results_cell_two rfl _ _ (w.heap.size + 2) _ _ _ _ rfl rfl (setRow_heap _ _ _ _ _ _ H2.out) Try.underlying60 rfl (by kernel_rfl)
        · rw [HI.out, HJ.out]; rfl
        · exact below_setRow HB.out (by omega) _
      case' pos =>
        have q3 : ((x.ga : Int) != (y.ga : Int)) = false := by rw [bne_eq_false_iff_eq]; omega
        by_cases g4 : y.gf ≤ y.gt
        case' neg =>
          have q4 : decide ((y.gt : Int) < (y.gf : Int)) = true := decide_eq_true (by omega)
          have r4 : decide (y.gt < y.gf) = true := decide_eq_true (by omega)
          have hj : joinB x y = false := by unfold joinB; rw [decide_eq_false (fun e => g4 e.2.2.2)]; simp
          have HI := HN hj
          have HJ := Lib.hid hj
          clear HN hj
          clear g3 g4 l1 l2
          clear g1 g2
          go_enter Try.func105, Try.ntmps105
          go_upto_region 1 with fail
          rw [← HW.out]
          go_upto_region 2 with fail
          go_wp2_with (refine wpList_store_row rfl _ _ _ rfl (w.heap.size + 2) _ rfl rfl _ _ H2.out Try.infoI rfl (by simp [Value.oneCell']) ?_)
          refine bodyPost_ret (v := .tuple #[.agg #[.bool false, .int .u8 0, .int .u64 0, .int .u64 0, .string ⟨#[]⟩, .slice none 0 0, .int .u8 0, .int .u8 0, .int .i64 0, .int .u8 0, .int .u8 0, .int .u64 0, .int .u64 0], .bool false]) ?_ rfl ⟨?_, ?_⟩
          · exact results_cell_two rfl _ _ (w.heap.size + 2) _ _ _ _ rfl rfl (setRow_heap _ _ _ _ _ _ H2.out) Try.underlying60 rfl (by kernel_rfl)
          · rw [HI.out, HJ.out]; rfl
          · exact below_setRow HB.out (by omega) _
        case' pos =>
          have q4 : decide ((y.gt : Int) < (y.gf : Int)) = false := decide_eq_false (by omega)
          have r4 : decide (y.gt < y.gf) = false := decide_eq_false (by omega)
          by_cases g5 : y.gf = 0
          case' pos =>
            have q5 : ((y.gf : Int) == 0) = true := by rw [beq_iff_eq]; omega
            have hj : joinB x y = false := by unfold joinB; rw [decide_eq_false (fun e => by omega)]; simp
            have HI := HN hj
            have HJ := Lib.hid hj
            clear HN hj
            clear g3 g4 g5 l1 l2
            clear g1 g2
            go_enter Try.func105, Try.ntmps105
            go_upto_region 1 with fail
            rw [← HW.out]
            go_upto_region 4 with fail
            go_wp2_with (refine wpList_store_row rfl _ _ _ rfl (w.heap.size + 2) _ rfl rfl _ _ H2.out Try.infoI rfl (by simp [Value.oneCell']) ?_)
            refine bodyPost_ret (v := .tuple #[.agg #[.bool false, .int .u8 0, .int .u64 0, .int .u64 0, .string ⟨#[]⟩, .slice none 0 0, .int .u8 0, .int .u8 0, .int .i64 0, .int .u8 0, .int .u8 0, .int .u64 0, .int .u64 0], .bool false]) ?_ rfl ⟨?_, ?_⟩
            · exact results_cell_two rfl _ _ (w.heap.size + 2) _ _ _ _ rfl rfl (setRow_heap _ _ _ _ _ _ H2.out) Try.underlying60 rfl (by kernel_rfl)
            · rw [HI.out, HJ.out]; rfl
            · exact below_setRow HB.out (by omega) _
          case' neg =>
            have q5 : ((y.gf : Int) == 0) = false := by rw [beq_eq_false_iff_ne]; omega
            have hw : IntKind.u64.wrap ((y.gf : Int) - 1) = ((y.gf - 1 : Nat) : Int) := by rw [IntKind.wrap_u64]; omega
            by_cases g6 : y.gf - 1 = x.gt
            case' neg =>
              have q6 : (((y.gf - 1 : Nat) : Int) != (x.gt : Int)) = true := by rw [bne_iff_ne]; omega
              have hj : joinB x y = false := by unfold joinB; rw [decide_eq_false (fun e => g6 e.2.2.1)]; simp
              have HI := HN hj
              have HJ := Lib.hid hj
              clear HN hj
              clear g3 g4 g5 g6 l1 l2
              clear g1 g2
              go_enter Try.func105, Try.ntmps105
              go_upto_region 1 with fail
              rw [← HW.out]
              go_upto_region 4 with fail
              go_wp2_with (refine wpList_store_row rfl _ _ _ rfl (w.heap.size + 2) _ rfl rfl _ _ H2.out Try.infoI rfl (by simp [Value.oneCell']) ?_)
              refine bodyPost_ret (v := .tuple #[.agg #[.bool false, .int .u8 0, .int .u64 0, .int .u64 0, .string ⟨#[]⟩, .slice none 0 0, .int .u8 0, .int .u8 0, .int .i64 0, .int .u8 0, .int .u8 0, .int .u64 0, .int .u64 0], .bool false]) ?_ rfl ⟨?_, ?_⟩
              · exact results_cell_two rfl _ _ (w.heap.size + 2) _ _ _ _ rfl rfl (setRow_heap _ _ _ _ _ _ H2.out) Try.underlying60 rfl (by kernel_rfl)
              · rw [HI.out, HJ.out]; rfl
              · exact below_setRow HB.out (by omega) _
            case' pos =>
              have q6 : (((y.gf - 1 : Nat) : Int) != (x.gt : Int)) = false := by rw [bne_eq_false_iff_eq]; omega
              have hj : joinB x y = true := by unfold joinB; rw [g1, g2, decide_eq_true ⟨g3, by omega, g6, g4⟩]; rfl
              have hi : joinI x y = ⟨true, 0, 0, 0, ⟨#[]⟩, [], 0, 0, 0, 0, x.ga, x.gf, y.gt⟩ := by unfold joinI; rw [hj]; rfl
              have HI := Lib.hid hi
              have HJ := Lib.hid hj
              clear HN hj hi g3 g4 g5 g6 l1 l2
              clear g1 g2
              go_enter Try.func105, Try.ntmps105
              go_upto_region 1 with fail
              rw [← HW.out]
              go_wp2_with fail
              refine (gap_any _ _ _ W).mono ?_
              rintro e w2 ⟨rfl, hb2⟩
              have hs2 := hb2.size
              have hz := HZ.out
              have HB3 := Lib.hid (HB.out.trans (hb2.mono (by omega)))
              have G2 := Lib.hid ((hb2.block (w.heap.size + 2) (by omega)).trans H2.out)
              clear hb2
              go_wp2_with (refine wpList_store_row rfl _ _ _ rfl (w.heap.size + 2) _ rfl rfl _ _ G2.out Try.infoI rfl (by simp [Value.oneCell']) ?_)
              refine bodyPost_ret (v := .tuple #[.agg #[.bool true, .int .u8 0, .int .u64 0, .int .u64 0, .string ⟨#[]⟩, .slice none 0 0, .int .u8 0, .int .u8 0, .int .i64 0, .int .u8 0, .int .u8 x.ga, .int .u64 x.gf, .int .u64 y.gt], .bool true]) ?_ rfl ⟨?_, ?_⟩
              · exact results_cell_two rfl _ _ (w.heap.size + 2) _ _ _ _ rfl rfl (setRow_heap _ _ _ _ _ _ G2.out) Try.underlying60 rfl (by kernel_rfl)
              · rw [HI.out, HJ.out]; rfl
              · exact below_setRow HB3.out (by omega) _
theorem joinI_l (x y : It) : (joinI x y).l = [] := by
  unfold joinI
  split <;> rfl
theorem join_any (x y : It) (hy : OkI y) (A : Option Addr) (n c : Nat) (A2 : Option Addr) (n2 c2 : Nat) (w : World) :
    Calls Try.prog 105 #[.agg #[.bool x.g, .int .u8 x.o, .int .u64 x.q, .int .u64 x.t, .string x.r, .slice A n c, .int .u8 x.s, .int .u8 x.p, .int .i64 x.v, .int .u8 x.w, .int .u8 x.ga, .int .u64 x.gf, .int .u64 x.gt], .agg #[.bool y.g, .int .u8 y.o, .int .u64 y.q, .int .u64 y.t, .string y.r, .slice A2 n2 c2, .int .u8 y.s, .int .u8 y.p, .int .i64 y.v, .int .u8 y.w, .int .u8 y.ga, .int .u64 y.gf, .int .u64 y.gt]] w (TwoRet (joinI x y) (joinB x y) w) := by
  refine (join_new x y hy A n c A2 n2 c2 w).mono ?_
  rintro e w' ⟨h1, h2⟩
  exact ⟨none, 0, 0, h1, by rw [joinI_l]; rfl, by rw [joinI_l]; exact RdP.nil, h2⟩
end Go.Proofs.Ytgcfofnlgdfmoaa
/- Layer 4: item.Own, item.Check; the document's own. -/
namespace Go.Proofs.Ytgcfofnlgdfmoaa
open Go.RowKit

theorem own_cut {s : ByteArray} : ((s.extract 0 4).toList == [111, 119, 110, 46]) = ownB s := by
  rw [Lib.toList_data, Lib.extract_data]
  unfold ownB
  rw [Bool.eq_iff_iff, beq_iff_eq, decide_eq_true_eq]
  rfl
theorem own_short {s : ByteArray} (h : ¬ 4 ≤ s.size) : false = ownB s := by
  unfold ownB
  symm
  rw [decide_eq_false_iff_not]
  intro e
  have h1 := congrArg List.length e
  rw [List.length_take] at h1
  have h2 : s.data.toList.length = s.size := rfl
  simp at h1
  omega
set_option maxHeartbeats 400000 in
theorem litePrefix_any (s : ByteArray) (w : World) :
    Calls Try.prog 136 #[.string s, .string ⟨#[111, 119, 110, 46]⟩] w fun e w' => e = .returned (.bool (ownB s)) ∧ w = w' := by
  by_cases h4 : 4 ≤ s.size
  · go_enter Try.func136, Try.ntmps136
    go_wp2
    go_ret
    exact ⟨ret_bool own_cut, rfl⟩
  · go_enter Try.func136, Try.ntmps136
    go_wp2
    go_ret
    exact ⟨ret_bool (own_short h4), rfl⟩
set_option maxHeartbeats 400000 in
theorem hasPrefix_any (s : ByteArray) (w : World) :
    Calls Try.prog 126 #[.string s, .string ⟨#[111, 119, 110, 46]⟩] w fun e w' => e = .returned (.bool (ownB s)) ∧ w = w' := by
  go_enter Try.func126, Try.ntmps126
  go_wp2_with fail
  refine (litePrefix_any s _).mono ?_
  rintro e w' ⟨rfl, rfl⟩
  go_wp2
  go_ret
  exact ⟨rfl, rfl⟩
set_option maxHeartbeats 400000 in
theorem own_any (s : ByteArray) (w : World) :
    Calls Try.prog 117 #[.string s] w fun e w' => e = .returned (.bool (ownB s)) ∧ w = w' := by
  go_enter Try.func117, Try.ntmps117
  go_wp2_with fail
  refine (hasPrefix_any s _).mono ?_
  rintro e w' ⟨rfl, rfl⟩
  go_wp2
  go_ret
  exact ⟨rfl, rfl⟩
set_option maxRecDepth 100000 in
set_option maxHeartbeats 1000000 in
theorem checkGap_any (x : It) (w : World) :
    Calls Try.prog 101 #[.agg #[.int .u8 x.ga, .int .u64 x.gf, .int .u64 x.gt]] w fun e w' => e = .returned (.int .i64 (gapN x : Nat)) ∧ Below w.heap.size w w' := by
  have hba : Below w.heap.size w (w.alloc (.cells #[.int .u8 x.ga, .int .u64 x.gf, .int .u64 x.gt] 58)) := (Below.refl _ _).alloc (Nat.le_refl _) _
  by_cases h1 : 31 < x.ga
  · have k1 : (32 : Int) ≤ x.ga := by omega
    have hg : Hid (gapN x = 6) := if_pos (.inl h1)
    clear h1
    go_enter Try.func101, Try.ntmps101
    go_wp2
    go_ret
    exact ⟨by rw [hg.out]; rfl, hba⟩
  have k1 : ¬ (32 : Int) ≤ x.ga := by omega
  by_cases h2 : x.gf = 0
  · have k2 : ((x.gf : Int) == 0) = true := by rw [beq_iff_eq]; omega
    have hg : Hid (gapN x = 6) := if_pos (.inr (.inl h2))
    clear h1 h2
    go_enter Try.func101, Try.ntmps101
    go_wp2
    go_ret
    exact ⟨by rw [hg.out]; rfl, hba⟩
  have k2 : ((x.gf : Int) == 0) = false := by rw [beq_eq_false_iff_ne]; omega
  by_cases h3 : x.gt < x.gf
  · have hg : Hid (gapN x = 6) := if_pos (.inr (.inr (.inl h3)))
    clear h1 h2
    go_enter Try.func101, Try.ntmps101
    go_wp2
    go_ret
    exact ⟨by rw [hg.out]; rfl, hba⟩
  by_cases h4 : 1099511627776 < x.gt
  · have k4 : (1099511627776 : Int) < x.gt := by omega
    have hg : Hid (gapN x = 6) := if_pos (.inr (.inr (.inr h4)))
    clear h1 h2 h4
    go_enter Try.func101, Try.ntmps101
    go_wp2
    go_ret
    exact ⟨by rw [hg.out]; rfl, hba⟩
  have k4 : ¬ (1099511627776 : Int) < x.gt := by omega
  have hg : Hid (gapN x = 0) := if_neg (by omega)
  clear h1 h2 h4
  go_enter Try.func101, Try.ntmps101
  go_wp2
  go_ret
  exact ⟨by rw [hg.out]; rfl, hba⟩
end Go.Proofs.Ytgcfofnlgdfmoaa
