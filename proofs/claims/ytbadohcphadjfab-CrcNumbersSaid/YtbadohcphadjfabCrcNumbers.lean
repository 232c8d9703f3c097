/- The walk of watchfirelaw02.CrcNumbers. -/
import Derived.Test.YtbadohcphadjfabCrcAwake
import Derived.Laws.IdiomStrings
import Derived.Deep.RegionHeld3
import Derived.Deep.RegionWith
namespace Go.Proofs.Ytbadohcphadjfab.crcNumbers
open Go.RowKit Go.Proofs.Ytbadohcphadjfab

theorem equalIn_u8 (d : Nat) (w : World) (x : Int) : (Op.equalIn (d + 1) 5 (.int .u8 x) (.int .u8 x)).run Try.prog w = .ok true w := by
  simp [Op.equalIn, run_underlying Try.underlying5]
theorem equalIn_arr (d : Nat) (w : World) (x0 x1 x2 x3 : Int) : (Op.equalIn (d + 2) 33 (.agg #[.int .u8 x0, .int .u8 x1, .int .u8 x2, .int .u8 x3]) (.agg #[.int .u8 x0, .int .u8 x1, .int .u8 x2, .int .u8 x3])).run Try.prog w = .ok true w := by
  have s5 := Try.sizeOf5
  have a5 := Try.isAgg5
  rw [Op.equalIn]
  simp only [Sem.run_bind, run_underlying Try.underlying33, Result.andThen_ok, s5]
  have hp : ∀ (j : Nat) (v : Value) (w : World), #[Value.int .u8 x0, .int .u8 x1, .int .u8 x2, .int .u8 x3][j]? = some v → (part 5 #[Value.int .u8 x0, .int .u8 x1, .int .u8 x2, .int .u8 x3] j).run Try.prog w = .ok v w := fun j v w hv => by
    simp only [part, Sem.run_bind, a5, Result.andThen_ok, Bool.false_eq_true, if_false, hv, Sem.run_pure]
  have hr : (List.range' 0 4 1) = [0, 1, 2, 3] := rfl
  rw [Std.Legacy.Range.forIn_eq_forIn_range']
  simp only [Std.Legacy.Range.size, Nat.sub_zero, Nat.add_sub_cancel, Nat.div_one, hr, List.forIn_cons, List.forIn_nil, Sem.run_bind, Nat.mul_one]
  have p0 : ∀ w, (part 5 #[Value.int .u8 x0, .int .u8 x1, .int .u8 x2, .int .u8 x3] 0).run Try.prog w = .ok (.int .u8 x0) w := fun w => hp 0 _ w rfl
  have p1 : ∀ w, (part 5 #[Value.int .u8 x0, .int .u8 x1, .int .u8 x2, .int .u8 x3] 1).run Try.prog w = .ok (.int .u8 x1) w := fun w => hp 1 _ w rfl
  have p2 : ∀ w, (part 5 #[Value.int .u8 x0, .int .u8 x1, .int .u8 x2, .int .u8 x3] 2).run Try.prog w = .ok (.int .u8 x2) w := fun w => hp 2 _ w rfl
  have p3 : ∀ w, (part 5 #[Value.int .u8 x0, .int .u8 x1, .int .u8 x2, .int .u8 x3] 3).run Try.prog w = .ok (.int .u8 x3) w := fun w => hp 3 _ w rfl
  simp only [p0, p1, p2, p3, Result.andThen_ok, equalIn_u8, Bool.not_true, Bool.false_eq_true, if_false, Sem.run_pure, Sem.run_bind]
theorem eq4 (w : World) (x0 x1 x2 x3 : Int) : (binOp .eql 33 (.agg #[.int .u8 x0, .int .u8 x1, .int .u8 x2, .int .u8 x3]) (.agg #[.int .u8 x0, .int .u8 x1, .int .u8 x2, .int .u8 x3])).run Try.prog w = .ok (.bool true) w := by
  have h : (Op.equalIn 10000 33 (.agg #[.int .u8 x0, .int .u8 x1, .int .u8 x2, .int .u8 x3]) (.agg #[.int .u8 x0, .int .u8 x1, .int .u8 x2, .int .u8 x3])).run Try.prog w = .ok true w := equalIn_arr 9998 w x0 x1 x2 x3
  simp only [binOp, Op.equal, Op.maxDepth, Sem.run_bind]
  rw [h]
  rfl
def strI (l : List Int) : ByteArray := l.foldl (fun r n => r.push (UInt8.ofNat n.toNat)) ByteArray.empty
theorem conv4 (w : World) (g c : Nat) (x0 x1 x2 x3 : Int) (h0 : w.cell? ⟨g, 0, none⟩ = some (.int .u8 x0)) (h1 : w.cell? ⟨g, 1, none⟩ = some (.int .u8 x1)) (h2 : w.cell? ⟨g, 2, none⟩ = some (.int .u8 x2)) (h3 : w.cell? ⟨g, 3, none⟩ = some (.int .u8 x3)) :
    (convert 22 9 (.slice (some ⟨g, 0, none⟩) 4 c)).run Try.prog w = .ok (.string (strI [x0, x1, x2, x3])) w := by
  rw [run_convert_bytes_string w _ _ _ _ _ _ Try.underlying22 Try.underlying5 Try.underlying9]
  have hl := run_loadCells_list (P := Try.prog) w ⟨g, 0, none⟩ ([x0, x1, x2, x3].map (Value.int .u8)) (fun j v hj => by
    rw [Addr.add_lit]
    match j, hj with
    | 0, hj => cases hj; exact h0
    | 1, hj => cases hj; exact h1
    | 2, hj => cases hj; exact h2
    | 3, hj => cases hj; exact h3)
  exact run_bytesToString w _ 4 c _ hl

set_option maxRecDepth 100000 in
set_option maxHeartbeats 4000000 in
theorem walk (n : Nat) (hn : n < 4294967296) (b0 b1 b2 b3 : Nat) (hok : OkB [b0, b1, b2, b3]) (w : World) :
    Calls Try.prog 4 #[.int .u32 n, .agg #[.int .u8 b0, .int .u8 b1, .int .u8 b2, .int .u8 b3]] w fun e w' => e = .returned (.bool true) ∧ Below w.heap.size w w' := by
  have Ha := Lib.hid cawake_any
  obtain ⟨y0, y1, y2, y3, hy⟩ : ∃ y0 y1 y2 y3, four n = [y0, y1, y2, y3] := ⟨_, _, _, _, rfl⟩
  have hp := fun w => put_eq n w hn
  have ht := fun w => take_eq [y0, y1, y2, y3] rfl (by rw [← hy]; exact okB_four _) w
  have hf := fun w => rfour_eq n w hn
  rw [hy] at hp hf
  rw [← hy, takeN_four hn, hy] at ht
  have hlt := takeN_lt (l := [b0, b1, b2, b3]) rfl hok
  have hp2 := fun w => put_eq (takeN [b0, b1, b2, b3]) w hlt
  rw [four_takeN rfl hok] at hp2
  have ht2 := fun w => take_eq [b0, b1, b2, b3] rfl hok w
  have Hp : Hid (∀ w : World, Calls Try.prog 13 #[.int .u32 n] w fun e w' => e = .returned (.agg #[.int .u8 y0, .int .u8 y1, .int .u8 y2, .int .u8 y3]) ∧ w' = (w.alloc (.cells #[.int .u8 y0, .int .u8 y1, .int .u8 y2, .int .u8 y3] 33)).alloc (.cells #[.int .u8 y0, .int .u8 y1, .int .u8 y2, .int .u8 y3] 33)) := hp
  have Ht : Hid (∀ w : World, Calls Try.prog 14 #[.agg #[.int .u8 y0, .int .u8 y1, .int .u8 y2, .int .u8 y3]] w fun e w' => e = .returned (.int .u32 n) ∧ w' = w.alloc (.cells #[.int .u8 y0, .int .u8 y1, .int .u8 y2, .int .u8 y3] 33)) := ht
  have Hf : Hid (∀ w : World, Calls Try.prog 10 #[.int .u32 n] w fun e w' => e = .returned (.slice (some ⟨w.heap.size, 0, none⟩) 4 4) ∧ w' = w.alloc (.cells #[.int .u8 y0, .int .u8 y1, .int .u8 y2, .int .u8 y3] 5)) := hf
  have Hp2 : Hid (∀ w : World, Calls Try.prog 13 #[.int .u32 (takeN [b0, b1, b2, b3] : Nat)] w fun e w' => e = .returned (.agg #[.int .u8 b0, .int .u8 b1, .int .u8 b2, .int .u8 b3]) ∧ w' = (w.alloc (.cells #[.int .u8 b0, .int .u8 b1, .int .u8 b2, .int .u8 b3] 33)).alloc (.cells #[.int .u8 b0, .int .u8 b1, .int .u8 b2, .int .u8 b3] 33)) := hp2
  have Ht2 : Hid (∀ w : World, Calls Try.prog 14 #[.agg #[.int .u8 b0, .int .u8 b1, .int .u8 b2, .int .u8 b3]] w fun e w' => e = .returned (.int .u32 (takeN [b0, b1, b2, b3] : Nat)) ∧ w' = w.alloc (.cells #[.int .u8 b0, .int .u8 b1, .int .u8 b2, .int .u8 b3] 33)) := ht2
  clear hp ht hf hp2 ht2 hy hok
  generalize takeN [b0, b1, b2, b3] = m at *
  have hq := eq4
  go_enter Try.func4, Try.ntmps4
  go_wp2_with fail
  refine (Ha.out _).mono ?_
  rintro e w1 ⟨rfl, hb1⟩
  have c0 := (hb1.cell (p := ⟨w.heap.size, 0, none⟩) (by simp)).trans (World.cell?_alloc_at _ _ _ _ rfl)
  have c1 := (hb1.cell (p := ⟨w.heap.size, 1, none⟩) (by simp)).trans (World.cell?_alloc_at _ _ _ _ rfl)
  have c2 := (hb1.cell (p := ⟨w.heap.size, 2, none⟩) (by simp)).trans (World.cell?_alloc_at _ _ _ _ rfl)
  have c3 := (hb1.cell (p := ⟨w.heap.size, 3, none⟩) (by simp)).trans (World.cell?_alloc_at _ _ _ _ rfl)
  have hlt1 : w.heap.size < w1.heap.size := by have := hb1.size; simp at this; omega
  have hbw : Below w.heap.size w w1 := ((Below.refl _ _).alloc (Nat.le_refl _) _).trans (hb1.mono (by simp))
  clear hb1
  go_wp2_with fail
  refine (Hp.out _).mono ?_
  rintro e w2 ⟨rfl, rfl⟩
  go_wp2
  have hb3 : Below w1.heap.size w1 (((w1.alloc (.cells #[.int .u8 y0, .int .u8 y1, .int .u8 y2, .int .u8 y3] 33)).alloc (.cells #[.int .u8 y0, .int .u8 y1, .int .u8 y2, .int .u8 y3] 33)).alloc (.cells #[.int .u8 y0, .int .u8 y1, .int .u8 y2, .int .u8 y3] 33)) := (((Below.refl _ _).alloc (Nat.le_refl _) _).alloc (by simp) _).alloc (by simp; omega) _
  have d0 := (hb3.cell (p := ⟨w.heap.size, 0, none⟩) hlt1).trans c0
  have e0 : (((w1.alloc (.cells #[.int .u8 y0, .int .u8 y1, .int .u8 y2, .int .u8 y3] 33)).alloc (.cells #[.int .u8 y0, .int .u8 y1, .int .u8 y2, .int .u8 y3] 33)).alloc (.cells #[.int .u8 y0, .int .u8 y1, .int .u8 y2, .int .u8 y3] 33)).cell? ⟨w1.heap.size + 1 + 1, 0, none⟩ = some (.int .u8 y0) := by rw [World.cell?_alloc_at _ _ _ _ (by simp)]; rfl
  have d1 := (hb3.cell (p := ⟨w.heap.size, 1, none⟩) hlt1).trans c1
  have e1 : (((w1.alloc (.cells #[.int .u8 y0, .int .u8 y1, .int .u8 y2, .int .u8 y3] 33)).alloc (.cells #[.int .u8 y0, .int .u8 y1, .int .u8 y2, .int .u8 y3] 33)).alloc (.cells #[.int .u8 y0, .int .u8 y1, .int .u8 y2, .int .u8 y3] 33)).cell? ⟨w1.heap.size + 1 + 1, 1, none⟩ = some (.int .u8 y1) := by rw [World.cell?_alloc_at _ _ _ _ (by simp)]; rfl
  have d2 := (hb3.cell (p := ⟨w.heap.size, 2, none⟩) hlt1).trans c2
  have e2 : (((w1.alloc (.cells #[.int .u8 y0, .int .u8 y1, .int .u8 y2, .int .u8 y3] 33)).alloc (.cells #[.int .u8 y0, .int .u8 y1, .int .u8 y2, .int .u8 y3] 33)).alloc (.cells #[.int .u8 y0, .int .u8 y1, .int .u8 y2, .int .u8 y3] 33)).cell? ⟨w1.heap.size + 1 + 1, 2, none⟩ = some (.int .u8 y2) := by rw [World.cell?_alloc_at _ _ _ _ (by simp)]; rfl
  have d3 := (hb3.cell (p := ⟨w.heap.size, 3, none⟩) hlt1).trans c3
  have e3 : (((w1.alloc (.cells #[.int .u8 y0, .int .u8 y1, .int .u8 y2, .int .u8 y3] 33)).alloc (.cells #[.int .u8 y0, .int .u8 y1, .int .u8 y2, .int .u8 y3] 33)).alloc (.cells #[.int .u8 y0, .int .u8 y1, .int .u8 y2, .int .u8 y3] 33)).cell? ⟨w1.heap.size + 1 + 1, 3, none⟩ = some (.int .u8 y3) := by rw [World.cell?_alloc_at _ _ _ _ (by simp)]; rfl
  have hlt3 : w1.heap.size + 1 + 1 < (((w1.alloc (.cells #[.int .u8 y0, .int .u8 y1, .int .u8 y2, .int .u8 y3] 33)).alloc (.cells #[.int .u8 y0, .int .u8 y1, .int .u8 y2, .int .u8 y3] 33)).alloc (.cells #[.int .u8 y0, .int .u8 y1, .int .u8 y2, .int .u8 y3] 33)).heap.size := by simp
  clear c0 c1 c2 c3
  generalize (((w1.alloc (.cells #[.int .u8 y0, .int .u8 y1, .int .u8 y2, .int .u8 y3] 33)).alloc (.cells #[.int .u8 y0, .int .u8 y1, .int .u8 y2, .int .u8 y3] 33)).alloc (.cells #[.int .u8 y0, .int .u8 y1, .int .u8 y2, .int .u8 y3] 33)) = w3 at *
  have hbw3 : Below w.heap.size w w3 := hbw.trans (hb3.mono hbw.size)
  have hlt4 : w.heap.size < w3.heap.size := by have := hb3.size; omega
  clear hb3 hbw hlt1
  generalize w1.heap.size + 1 + 1 = g5 at *
  obtain ⟨g3, hg3⟩ : ∃ g, w.heap.size = g := ⟨_, rfl⟩
  have Hg3 := Lib.hid hg3
  rw [hg3] at hbw3 hlt4 d0 d1 d2 d3
  rw [hg3]
  clear hg3
  have hc5 := fun (W : World) h0 h1 h2 h3 => conv4 W g5 4 (y0 : Int) y1 y2 y3 h0 h1 h2 h3
  have hcF : ∀ W : World, (convert 22 9 (.slice (some ⟨W.heap.size, 0, none⟩) 4 4)).run Try.prog (W.alloc (.cells #[.int .u8 y0, .int .u8 y1, .int .u8 y2, .int .u8 y3] 5)).drew = .ok (.string (strI [(y0 : Int), y1, y2, y3])) (W.alloc (.cells #[.int .u8 y0, .int .u8 y1, .int .u8 y2, .int .u8 y3] 5)).drew := fun W =>
    conv4 _ _ 4 (y0 : Int) y1 y2 y3 (by rw [World.cell?_drew, World.cell?_alloc_at _ _ _ _ rfl]; rfl) (by rw [World.cell?_drew, World.cell?_alloc_at _ _ _ _ rfl]; rfl) (by rw [World.cell?_drew, World.cell?_alloc_at _ _ _ _ rfl]; rfl) (by rw [World.cell?_drew, World.cell?_alloc_at _ _ _ _ rfl]; rfl)
  have hcG : ∀ W : World, (convert 22 9 (.slice (some ⟨W.heap.size, 0, none⟩) 4 4)).run Try.prog (W.alloc (.cells #[.int .u8 y0, .int .u8 y1, .int .u8 y2, .int .u8 y3] 5)) = .ok (.string (strI [(y0 : Int), y1, y2, y3])) (W.alloc (.cells #[.int .u8 y0, .int .u8 y1, .int .u8 y2, .int .u8 y3] 5)) := fun W =>
    conv4 _ _ 4 (y0 : Int) y1 y2 y3 (by rw [World.cell?_alloc_at _ _ _ _ rfl]; rfl) (by rw [World.cell?_alloc_at _ _ _ _ rfl]; rfl) (by rw [World.cell?_alloc_at _ _ _ _ rfl]; rfl) (by rw [World.cell?_alloc_at _ _ _ _ rfl]; rfl)
  have hcH : ∀ (W : World) (g : Nat), W.cell? ⟨g, 0, none⟩ = some (.int .u8 y0) → W.cell? ⟨g, 1, none⟩ = some (.int .u8 y1) → W.cell? ⟨g, 2, none⟩ = some (.int .u8 y2) → W.cell? ⟨g, 3, none⟩ = some (.int .u8 y3) → (convert 22 9 (.slice (some ⟨g, 0, none⟩) 4 4)).run Try.prog W = .ok (.string (strI [(y0 : Int), y1, y2, y3])) W := fun W g h0 h1 h2 h3 => conv4 W g 4 (y0 : Int) y1 y2 y3 h0 h1 h2 h3
  have HK : Hid (∀ W : World, Below w3.heap.size w3 W → W.cell? ⟨g3, 0, none⟩ = some (.int .u8 b0) ∧ W.cell? ⟨g3, 1, none⟩ = some (.int .u8 b1) ∧ W.cell? ⟨g3, 2, none⟩ = some (.int .u8 b2) ∧ W.cell? ⟨g3, 3, none⟩ = some (.int .u8 b3) ∧ W.cell? ⟨g5, 0, none⟩ = some (.int .u8 y0) ∧ W.cell? ⟨g5, 1, none⟩ = some (.int .u8 y1) ∧ W.cell? ⟨g5, 2, none⟩ = some (.int .u8 y2) ∧ W.cell? ⟨g5, 3, none⟩ = some (.int .u8 y3)) := fun W hW =>
    ⟨(hW.cell (p := ⟨g3, 0, none⟩) hlt4).trans d0, (hW.cell (p := ⟨g3, 1, none⟩) hlt4).trans d1, (hW.cell (p := ⟨g3, 2, none⟩) hlt4).trans d2, (hW.cell (p := ⟨g3, 3, none⟩) hlt4).trans d3, (hW.cell (p := ⟨g5, 0, none⟩) hlt3).trans e0, (hW.cell (p := ⟨g5, 1, none⟩) hlt3).trans e1, (hW.cell (p := ⟨g5, 2, none⟩) hlt3).trans e2, (hW.cell (p := ⟨g5, 3, none⟩) hlt3).trans e3⟩
  have l1 : g3 < w3.heap.size + 1 := by omega
  have l2 : g3 < w3.heap.size + 1 + 1 := by omega
  have l3 : g3 < w3.heap.size + 1 + 1 + 1 := by omega
  have l4 : g3 < w3.heap.size + 1 + 1 + 1 + 1 := by omega
  have l5 : g3 < w3.heap.size + 1 + 1 + 1 + 1 + 1 := by omega
  have m1 : g5 < w3.heap.size + 1 := by omega
  have m2 : g5 < w3.heap.size + 1 + 1 := by omega
  have m3 : g5 < w3.heap.size + 1 + 1 + 1 := by omega
  have m4 : g5 < w3.heap.size + 1 + 1 + 1 + 1 := by omega
  have m5 : g5 < w3.heap.size + 1 + 1 + 1 + 1 + 1 := by omega
  clear Ha Hp hn hlt HK
  go_region_with (first | (go_at_call 10; (with_reducible refine (Hf.out _).mono ?_); rintro e w' ⟨rfl, rfl⟩) | (go_at_call 14; (with_reducible refine (Ht.out _).mono ?_); rintro e w' ⟨rfl, rfl⟩) | (go_at_call 14; (with_reducible refine (Ht2.out _).mono ?_); rintro e w' ⟨rfl, rfl⟩) | (go_at_call 13; (with_reducible refine (Hp2.out _).mono ?_); rintro e w' ⟨rfl, rfl⟩))
  all_goals (
    go_wp2
    go_ret
    refine ⟨rfl, Hg3.out ▸ hbw3.trans (RowKit.Below.mono (B := w3.heap.size) ?_ (by omega))⟩
    repeat (first | exact Below.refl _ _ | refine RowKit.Below.drew ?_ | refine RowKit.Below.alloc ?_ (by simp <;> omega) _))
end Go.Proofs.Ytbadohcphadjfab.crcNumbers
