/- Layer 6: what a tear leaves of a file. -/
import Derived.Test.YtgcfofnlgdfmoaaDkNames
import Derived.Laws.Shifts
import Derived.Laws.BitsAllLaws
namespace Go.Proofs.Ytgcfofnlgdfmoaa
open Go.RowKit Go.Maps

theorem ownsRow_set {w : World} {base : Nat} {e : TypeId} {n c r : Nat} {xs : List Value} (h : w.ownsRow base e 1 (.slice (some ⟨r, 0, none⟩) n c) n xs) (i : Nat) (u : Value) :
    (w.setCell ⟨r, i, none⟩ u).ownsRow base e 1 (.slice (some ⟨r, 0, none⟩) n c) n (xs.set i u) := by
  refine ⟨by rw [List.length_set]; exact h.1, ?_⟩
  rcases h.2 with ⟨e1, _⟩ | ⟨g, cap, cur, e1, h1, h2, h3, h4, h5, h6⟩
  · injection e1 with e1; cases e1
  · injection e1 with e1 e2 e3
    injection e1 with e1
    have e1 := congrArg Addr.block e1
    subst e3
    have e1 : r = g := e1
    subst e1
    refine .inr ⟨r, _, cur.setIfInBounds i u, rfl, h1, ?_, h3, h4, by simpa using h5, ?_⟩
    · show (w.heap.modify r _)[r]? = _
      rw [Array.getElem?_modify, if_pos rfl, h2]
      rfl
    · rw [Array.toList_setIfInBounds, ← h6, List.take_set]
/-- a file as a tear leaves it -/
def tornF (f : Fl) (keep bit : Nat) : Fl :=
  let n := min f.by_.length (f.syn + keep)
  ⟨if f.syn < n ∧ bit < 8 then (f.by_.set (n - 1) (f.by_.getD (n - 1) 0 ^^^ 2 ^ bit)).take n else f.by_.take n, n⟩

set_option maxRecDepth 100000 in
set_option maxHeartbeats 400000 in
theorem torn_flip (r n c syn keep bit : Nat) (l : List Nat) (w : World) (hn : n = l.length) (ho : w.ownsRow 0 5 1 (.slice (some ⟨r, 0, none⟩) n c) n (cellsB l)) (hs : syn ≤ n) (hm : n ≤ 1048576) (hk : keep < 65536) (hok : OkB l) (hb : bit < 8) (hp : syn < min n (syn + keep)) :
    Calls Try.prog 45 #[fileV (.slice (some ⟨r, 0, none⟩) n c) syn, .agg #[.int .u16 keep, .int .u16 bit]] w fun e w' => e = .returned (fileV (.slice (some ⟨r, 0, none⟩) (min n (syn + keep)) c) (min n (syn + keep) : Nat)) ∧
      w'.ownsRow 0 5 1 (.slice (some ⟨r, 0, none⟩) n c) n (cellsB (l.set (min n (syn + keep) - 1) (l.getD (min n (syn + keep) - 1) 0 ^^^ 2 ^ bit))) ∧ Only (fun k => k = r) w w' := by
  obtain ⟨y, hy⟩ : ∃ y : Nat, y = min n (syn + keep) := ⟨_, rfl⟩
  rw [← hy] at hp ⊢
  have hyn : y ≤ n := by omega
  have hmin : ∀ (ts : Array TypeId) (t : TypeId) (w : World), (Builtin.min_ ts t #[.int .i64 n, .int .i64 ((syn : Int) + keep)]).run Try.prog w = .ok (.int .i64 y) w := fun ts t w => by
    rw [run_min_int2, hy]
    split <;> rename_i h' <;> congr 2 <;> omega
  have HY := Lib.hid hy
  have HO := Lib.hid ho
  clear hy
  have hrl : r < w.heap.size := (ho.lt r rfl).2
  have hync : (y : Int) ≤ c := by
    rcases ho.2 with ⟨e1, _⟩ | ⟨g, cap, cur, e1, h1, h2, h3, h4, h5, h6⟩
    · cases e1
    · injection e1 with _ _ e3; omega
  have hylt : y - 1 < l.length := by omega
  have hcell : w.cell? ⟨r, y - 1, none⟩ = some (.int .u8 ((l.getD (y - 1) 0 : Nat) : Int)) := by
    have := ho.cells (g := r) rfl (y - 1) _ (cellsB_get (i := y - 1) (x := l.getD (y - 1) 0) (by rw [List.getD_eq_getElem?_getD, List.getElem?_eq_getElem hylt]; rfl))
    rw [Addr.add_lit] at this
    rw [← this]
    congr 2
    omega
  have hfr : w.frozen? ⟨r, y - 1, none⟩ = false := by
    rcases ho.2 with ⟨e1, _⟩ | ⟨g, cap, cur, e1, h1, h2, h3, h4, h5, h6⟩
    · cases e1
    · injection e1 with e1 _ e3
      injection e1 with e1
      have e1 : r = g := congrArg Addr.block e1
      subst e1
      simp [World.frozen?, h2]
  obtain ⟨a, ha⟩ : ∃ a : Nat, a = l.getD (y - 1) 0 := ⟨_, rfl⟩
  rw [← ha] at hcell ⊢
  have ha256 : a < 256 := by rw [ha, List.getD_eq_getElem?_getD, List.getElem?_eq_getElem hylt]; exact hok _ (List.getElem_mem hylt)
  obtain ⟨q, hq⟩ : ∃ q : Nat, q = y - 1 := ⟨_, rfl⟩
  rw [← hq] at hcell hfr ⊢
  have hqy : (y : Int) - 1 = q := by omega
  have hqn : q < n := by omega
  have HQ := Lib.hid hq
  have HN := Lib.hid hn
  have HK := Lib.hid hok
  clear hn ho hok ha hylt hq
  unfold fileV
  go_enter Try.func45, Try.ntmps45
  go_wp2
  have hb3 : Below w.heap.size w (((w.alloc (.cells #[.slice (some ⟨r, 0, none⟩) n c, .int .i64 syn] 126)).alloc (.cells #[.int .u16 keep, .int .u16 bit] 25)).alloc (.cells #[.slice none 0 0, .int .i64 0] 126)) := (below_two _ _ _).alloc (by simp; omega) _
  have b0 : (((w.alloc (.cells #[.slice (some ⟨r, 0, none⟩) n c, .int .i64 syn] 126)).alloc (.cells #[.int .u16 keep, .int .u16 bit] 25)).alloc (.cells #[.slice none 0 0, .int .i64 0] 126)).cell? ⟨w.heap.size, 0, none⟩ = some (.slice (some ⟨r, 0, none⟩) n c) := by
    rw [World.cell?_alloc_past _ _ _ (by simp; omega), World.cell?_alloc_past _ _ _ (by simp), World.cell?_alloc_at _ _ _ _ rfl]; rfl
  have b1 : (((w.alloc (.cells #[.slice (some ⟨r, 0, none⟩) n c, .int .i64 syn] 126)).alloc (.cells #[.int .u16 keep, .int .u16 bit] 25)).alloc (.cells #[.slice none 0 0, .int .i64 0] 126)).cell? ⟨w.heap.size + 1, 1, none⟩ = some (.int .u16 bit) := by
    rw [World.cell?_alloc_past _ _ _ (by simp), World.cell?_alloc_at _ _ _ _ (by simp)]; rfl
  have b2 : (((w.alloc (.cells #[.slice (some ⟨r, 0, none⟩) n c, .int .i64 syn] 126)).alloc (.cells #[.int .u16 keep, .int .u16 bit] 25)).alloc (.cells #[.slice none 0 0, .int .i64 0] 126)).cell? ⟨w.heap.size + 1 + 1, 0, none⟩ = some (.slice none 0 0) := by
    rw [World.cell?_alloc_at _ _ _ _ (by simp)]; rfl
  have b3 : (((w.alloc (.cells #[.slice (some ⟨r, 0, none⟩) n c, .int .i64 syn] 126)).alloc (.cells #[.int .u16 keep, .int .u16 bit] 25)).alloc (.cells #[.slice none 0 0, .int .i64 0] 126)).cell? ⟨w.heap.size + 1 + 1, 1, none⟩ = some (.int .i64 0) := by
    rw [World.cell?_alloc_at _ _ _ _ (by simp)]; rfl
  have b4 : ∀ o, (((w.alloc (.cells #[.slice (some ⟨r, 0, none⟩) n c, .int .i64 syn] 126)).alloc (.cells #[.int .u16 keep, .int .u16 bit] 25)).alloc (.cells #[.slice none 0 0, .int .i64 0] 126)).frozen? ⟨w.heap.size + 1 + 1, o, none⟩ = false := fun o => World.frozen?_alloc_at _ _ _ _ (by simp)
  have b5 := (hb3.cell (p := ⟨r, q, none⟩) hrl).trans hcell
  have b6 := (hb3.frozen (p := ⟨r, q, none⟩) hrl).trans hfr
  have hz : ∀ (o1 o2 o3 : Obj), (((w.alloc o1).alloc o2).alloc o3).heap.size = w.heap.size + 1 + 1 + 1 := fun _ _ _ => by simp
  have HB := Lib.hid hb3
  clear hb3 hcell hfr
  generalize hW : (((w.alloc (.cells #[.slice (some ⟨r, 0, none⟩) n c, .int .i64 syn] 126)).alloc (.cells #[.int .u16 keep, .int .u16 bit] 25)).alloc (.cells #[.slice none 0 0, .int .i64 0] 126)) = W3 at *
  have HW := Lib.hid hW
  clear hW hz
  go_region
  have hx : bits .xor .u8 (a : Int) (2 ^ bit % 256) = ((a ^^^ 2 ^ bit : Nat) : Int) := by
    have h8 : 2 ^ bit < 256 := by
      have : (2 : Nat) ^ bit ≤ 2 ^ 7 := Nat.pow_le_pow_right (by omega) (by omega)
      omega
    have h9 : ((2 ^ bit : Nat) : Int) = (2 : Int) ^ bit := by simp
    have h10 : (2 : Int) ^ bit % 256 = ((2 ^ bit : Nat) : Int) := by rw [← h9]; exact Int.emod_eq_of_lt (Int.natCast_nonneg _) (by exact_mod_cast h8)
    rw [h10]
    exact u8_xor_nat a (2 ^ bit) ha256 h8
  rw [hx]
  have e0 := (World.cell?_setCell_other W3 ⟨r, q, none⟩ ⟨w.heap.size, 0, none⟩ (.int .u8 ((a ^^^ 2 ^ bit : Nat) : Int)) (by simp <;> omega)).trans b0
  have e2 := (World.cell?_setCell_other W3 ⟨r, q, none⟩ ⟨w.heap.size + 1 + 1, 0, none⟩ (.int .u8 ((a ^^^ 2 ^ bit : Nat) : Int)) (by simp <;> omega)).trans b2
  have e3 := (World.cell?_setCell_other W3 ⟨r, q, none⟩ ⟨w.heap.size + 1 + 1, 1, none⟩ (.int .u8 ((a ^^^ 2 ^ bit : Nat) : Int)) (by simp <;> omega)).trans b3
  have e4 : ∀ o, (W3.setCell ⟨r, q, none⟩ (.int .u8 ((a ^^^ 2 ^ bit : Nat) : Int))).frozen? ⟨w.heap.size + 1 + 1, o, none⟩ = false := fun o => by rw [World.frozen?_setCell]; exact b4 o
  have ho4 := ownsRow_set (ownB_below HO.out HB.out) q (.int .u8 ((a ^^^ 2 ^ bit : Nat) : Int))
  have hon4 : Only (fun k => k = r) w (W3.setCell ⟨r, q, none⟩ (.int .u8 ((a ^^^ 2 ^ bit : Nat) : Int))) := (Only.of_below HB.out _).trans (Only.setCell (T := fun k => k = r) _ _ _ rfl) (fun _ h => .inl h)
  have H4 := Lib.hid ho4
  have HN4 := Lib.hid hon4
  clear ho4 hon4 b0 b1 b2 b3 b4 b5 b6 hx
  generalize (W3.setCell ⟨r, q, none⟩ (.int .u8 ((a ^^^ 2 ^ bit : Nat) : Int))) = W4 at *
  go_wp2
  have r0 : ((W4.setCell ⟨w.heap.size + 1 + 1, 0, none⟩ (.slice (some ⟨r, 0, none⟩) y c)).setCell ⟨w.heap.size + 1 + 1, 1, none⟩ (.int .i64 y)).drew.cell? ⟨w.heap.size + 1 + 1, 0, none⟩ = some (.slice (some ⟨r, 0, none⟩) y c) :=
    (World.cell?_setCell_other _ _ _ _ (by simp)).trans (World.cell?_setCell_same _ _ _ e2)
  have r1 : ((W4.setCell ⟨w.heap.size + 1 + 1, 0, none⟩ (.slice (some ⟨r, 0, none⟩) y c)).setCell ⟨w.heap.size + 1 + 1, 1, none⟩ (.int .i64 y)).drew.cell? ⟨w.heap.size + 1 + 1, 1, none⟩ = some (.int .i64 y) :=
    World.cell?_setCell_same _ _ _ ((World.cell?_setCell_other _ _ _ _ (by simp)).trans e3)
  have hon : Only (fun k => k = r) w ((W4.setCell ⟨w.heap.size + 1 + 1, 0, none⟩ (.slice (some ⟨r, 0, none⟩) y c)).setCell ⟨w.heap.size + 1 + 1, 1, none⟩ (.int .i64 y)).drew :=
    ((HN4.out.trans (Only.setCell (T := fun k => k = w.heap.size + 1 + 1) _ _ _ rfl) (fun i hi => .inr (by rw [hi]; omega))).trans (Only.setCell (T := fun k => k = w.heap.size + 1 + 1) _ _ _ rfl) (fun i hi => .inr (by rw [hi]; omega))).drew
  have hon2 : Only (fun k => k = w.heap.size + 1 + 1) W4 ((W4.setCell ⟨w.heap.size + 1 + 1, 0, none⟩ (.slice (some ⟨r, 0, none⟩) y c)).setCell ⟨w.heap.size + 1 + 1, 1, none⟩ (.int .i64 y)).drew :=
    ((Only.setCell (T := fun k => k = w.heap.size + 1 + 1) _ _ _ rfl).trans (Only.setCell (T := fun k => k = w.heap.size + 1 + 1) _ _ _ rfl) (fun i hi => .inl hi)).drew
  have ho := hon2.own H4.out (fun k hk e => by simp [Value.ownBlock] at hk; omega)
  generalize ((W4.setCell ⟨w.heap.size + 1 + 1, 0, none⟩ (.slice (some ⟨r, 0, none⟩) y c)).setCell ⟨w.heap.size + 1 + 1, 1, none⟩ (.int .i64 y)).drew = W5 at *
  refine bodyPost_ret (v := .agg #[.slice (some ⟨r, 0, none⟩) y c, .int .i64 y]) (by simp [results, Try.results45, go_sem, r0, r1]) rfl ⟨rfl, ?_, hon⟩
  have : (cellsB l).set q (.int .u8 ((a ^^^ 2 ^ bit : Nat) : Int)) = cellsB (l.set q (a ^^^ 2 ^ bit)) := by
    unfold cellsB
    rw [List.map_set]
    rfl
  rw [← this]
  exact ho

set_option maxRecDepth 100000 in
set_option maxHeartbeats 400000 in
theorem torn_plain (A : Option Addr) (n c syn keep bit : Nat) (w : World) (hA : A = none → c = 0) (hs : syn ≤ n) (hnc : n ≤ c) (hm : n ≤ 1048576) (hk : keep < 65536) (hp : min n (syn + keep) ≤ syn ∨ 8 ≤ bit) :
    Calls Try.prog 45 #[fileV (.slice A n c) syn, .agg #[.int .u16 keep, .int .u16 bit]] w fun e w' => e = .returned (fileV (.slice A (min n (syn + keep)) c) (min n (syn + keep) : Nat)) ∧ Below w.heap.size w w' := by
  obtain ⟨y, hy⟩ : ∃ y : Nat, y = min n (syn + keep) := ⟨_, rfl⟩
  rw [← hy] at hp ⊢
  have hyn : y ≤ n := by omega
  have hmin : ∀ (ts : Array TypeId) (t : TypeId) (w : World), (Builtin.min_ ts t #[.int .i64 n, .int .i64 ((syn : Int) + keep)]).run Try.prog w = .ok (.int .i64 y) w := fun ts t w => by
    rw [run_min_int2, hy]
    split <;> rename_i h' <;> congr 2 <;> omega
  have HY := Lib.hid hy
  clear hy
  have hsl : ∀ w : World, (Instr.sliceAt 37 (.slice A n c) none (some (.int .i64 y)) none).run Try.prog w = .ok (.slice A y c) w := fun w => by
    have hu : Try.prog.underlying 37 = some (.slice (Try.prog.elem 37)) := by kernel_rfl
    have hz : (sizeOf (Try.prog.elem 37)).run Try.prog w = .ok 1 w := by kernel_rfl
    rw [run_sliceAt_slice _ _ _ _ _ _ hu, run_slice_h _ _ _ _ _ hu .i64 (y : Int) (by omega) (by omega), hz]
    cases A <;> simp [Result.andThen, sliced, Addr.add]
  clear hA hnc
  have b3 : ∀ (o1 o2 o3 : Obj), Below w.heap.size w (((w.alloc o1).alloc o2).alloc o3) := fun o1 o2 o3 => (below_two w o1 o2).alloc (by simp; omega) o3
  have B3 := Lib.hid b3
  clear b3
  unfold fileV
  rcases hp with hp | hp
  · go_enter Try.func45, Try.ntmps45
    go_wp2
    refine bodyPost_ret (v := .agg #[.slice A y c, .int .i64 y]) (by simp [results, Try.results45, go_sem]) rfl ⟨rfl, B3.out _ _ _⟩
  · by_cases hp2 : y ≤ syn
    · go_enter Try.func45, Try.ntmps45
      go_wp2
      refine bodyPost_ret (v := .agg #[.slice A y c, .int .i64 y]) (by simp [results, Try.results45, go_sem]) rfl ⟨rfl, B3.out _ _ _⟩
    · have hd : decide ((bit : Int) < 8) = false := decide_eq_false (by omega)
      go_enter Try.func45, Try.ntmps45
      go_wp2
      refine bodyPost_ret (v := .agg #[.slice A y c, .int .i64 y]) (by simp [results, Try.results45, go_sem]) rfl ⟨rfl, B3.out _ _ _⟩
end Go.Proofs.Ytgcfofnlgdfmoaa
