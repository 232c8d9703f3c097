/- Several texts in one: DkTorn, DkCrash, DkCrashAny. -/
import Derived.Test.YtholdcgkhicdmaaGreatDoorZq42
namespace Go.Proofs.YtholdcgkhicdmaaGreatDoor
open Go.RowKit Go.Maps
theorem ownsRow_set {w : World} {base : Nat} {e : TypeId} {n c r : Nat} {xs : List Value} (h : w.ownsRow base e 1 (.slice (some ⟨r, 0, none⟩) n c) n xs) (i : Nat) (u : Value) :
  (w.setCell ⟨r, i, none⟩ u).ownsRow base e 1 (.slice (some ⟨r, 0, none⟩) n c) n (xs.set i u) := by
 refine ⟨by rw [List.length_set]; exact h.1, ?_⟩
 rcases h.2 with ⟨e1, _⟩ | ⟨g, cap, cur, e1, h1, h2, h3, h4, h5, h6⟩
 ·injection e1 with e1; cases e1
 ·injection e1 with e1 e2 e3
  injection e1 with e1
  have e1 := congrArg Addr.block e1
  subst e3
  have e1 : r = g := e1
  subst e1
  refine .inr ⟨r, _, cur.setIfInBounds i u, rfl, h1, ?_, h3, h4, by simpa using h5, ?_⟩
  ·show (w.heap.modify r _)[r]? = _
   rw [Array.getElem?_modify, if_pos rfl, h2]
   rfl
  ·rw [Array.toList_setIfInBounds, ← h6, List.take_set]
def tornF (f : Fl) (keep bit : Nat) : Fl :=
 let n := min f.by_.length (f.syn + keep)
 ⟨if f.syn < n ∧ bit < 8 then (f.by_.set (n - 1) (f.by_.getD (n - 1) 0 ^^^ 2 ^ bit)).take n else f.by_.take n, n⟩
set_option maxRecDepth 100000 in
set_option maxHeartbeats 400000 in
theorem torn_flip (r n c syn keep bit : Nat) (l : List Nat) (w : World) (hn : n = l.length) (ho : w.ownsRow 0 5 1 (.slice (some ⟨r, 0, none⟩) n c) n (cellsB l)) (hs : syn ≤ n) (hm : n ≤ 1048576) (hk : keep < 65536) (hok : OkB l) (hb : bit < 8) (hp : syn < min n (syn + keep)) :
  Calls Tryz.prog 51 #[fileV (.slice (some ⟨r, 0, none⟩) n c) syn, .agg #[.int .u16 keep, .int .u16 bit]] w fun e w' => e = .returned (fileV (.slice (some ⟨r, 0, none⟩) (min n (syn + keep)) c) (min n (syn + keep) : Nat)) ∧
   w'.ownsRow 0 5 1 (.slice (some ⟨r, 0, none⟩) n c) n (cellsB (l.set (min n (syn + keep) - 1) (l.getD (min n (syn + keep) - 1) 0 ^^^ 2 ^ bit))) ∧ Only (fun k => k = r) w w' := by
 obtain ⟨y, hy⟩ : ∃ y : Nat, y = min n (syn + keep) := ⟨_, rfl⟩
 rw [← hy] at hp ⊢
 have hyn : y ≤ n := by omega
 have hmin : ∀ (ts : Array TypeId) (t : TypeId) (w : World), (Builtin.min_ ts t #[.int .i64 n, .int .i64 ((syn : Int) + keep)]).run Tryz.prog w = .ok (.int .i64 y) w := fun ts t w => by
  rw [run_min_int2, hy]
  split <;> rename_i h' <;> congr 2 <;> omega
 have HY := Lib.hid hy
 have HO := Lib.hid ho
 clear hy
 have hrl : r < w.heap.size := (ho.lt r rfl).2
 have hync : (y : Int) ≤ c := by
  rcases ho.2 with ⟨e1, _⟩ | ⟨g, cap, cur, e1, h1, h2, h3, h4, h5, h6⟩
  ·cases e1
  ·injection e1 with _ _ e3; omega
 have hylt : y - 1 < l.length := by omega
 have hcell : w.cell? ⟨r, y - 1, none⟩ = some (.int .u8 ((l.getD (y - 1) 0 : Nat) : Int)) := by
  have := ho.cells (g := r) rfl (y - 1) _ (cellsB_get (i := y - 1) (x := l.getD (y - 1) 0) (by rw [List.getD_eq_getElem?_getD, List.getElem?_eq_getElem hylt]; rfl))
  rw [Addr.add_lit] at this
  rw [← this]
  congr 2
  omega
 have hfr : w.frozen? ⟨r, y - 1, none⟩ = false := by
  rcases ho.2 with ⟨e1, _⟩ | ⟨g, cap, cur, e1, h1, h2, h3, h4, h5, h6⟩
  ·cases e1
  ·injection e1 with e1 _ e3
   injection e1 with e1
   have e1 : r = g := congrArg Addr.block e1
   subst e1
   simp [World.frozen?, h2]
 obtain ⟨a, ha⟩ : ∃ a : Nat, a = l.getD (y - 1) 0 := ⟨_, rfl⟩
 rw [← ha] at hcell ⊢
 have ha256 : a < 256 := by rw [ha, List.getD_eq_getElem?_getD, List.getElem?_eq_getElem hylt]; exact hok _ (List.getElem_mem hylt)
 obtain ⟨q, hq⟩ : ∃ q : Nat, q = y - 1 := ⟨_, rfl⟩
 rw [← hq] at hcell hfr ⊢
 have hqy : (y : Int) - 1 = q := by omega
 have hqn : q < n := by omega
 have HQ := Lib.hid hq
 have HN := Lib.hid hn
 have HK := Lib.hid hok
 clear hn ho hok ha hylt hq
 unfold fileV
 go_enter Tryz.func51, Tryz.ntmps51
 go_wp2
 have hb3 : Below w.heap.size w (((w.alloc (.cells #[.slice (some ⟨r, 0, none⟩) n c, .int .i64 syn] 126)).alloc (.cells #[.int .u16 keep, .int .u16 bit] 24)).alloc (.cells #[.slice none 0 0, .int .i64 0] 126)) := (below_two _ _ _).alloc (by simp; omega) _
 have b0 : (((w.alloc (.cells #[.slice (some ⟨r, 0, none⟩) n c, .int .i64 syn] 126)).alloc (.cells #[.int .u16 keep, .int .u16 bit] 24)).alloc (.cells #[.slice none 0 0, .int .i64 0] 126)).cell? ⟨w.heap.size, 0, none⟩ = some (.slice (some ⟨r, 0, none⟩) n c) := by
  rw [World.cell?_alloc_past _ _ _ (by simp; omega), World.cell?_alloc_past _ _ _ (by simp), World.cell?_alloc_at _ _ _ _ rfl]; rfl
 have b1 : (((w.alloc (.cells #[.slice (some ⟨r, 0, none⟩) n c, .int .i64 syn] 126)).alloc (.cells #[.int .u16 keep, .int .u16 bit] 24)).alloc (.cells #[.slice none 0 0, .int .i64 0] 126)).cell? ⟨w.heap.size + 1, 1, none⟩ = some (.int .u16 bit) := by
  rw [World.cell?_alloc_past _ _ _ (by simp), World.cell?_alloc_at _ _ _ _ (by simp)]; rfl
 have b2 : (((w.alloc (.cells #[.slice (some ⟨r, 0, none⟩) n c, .int .i64 syn] 126)).alloc (.cells #[.int .u16 keep, .int .u16 bit] 24)).alloc (.cells #[.slice none 0 0, .int .i64 0] 126)).cell? ⟨w.heap.size + 1 + 1, 0, none⟩ = some (.slice none 0 0) := by
  rw [World.cell?_alloc_at _ _ _ _ (by simp)]; rfl
 have b3 : (((w.alloc (.cells #[.slice (some ⟨r, 0, none⟩) n c, .int .i64 syn] 126)).alloc (.cells #[.int .u16 keep, .int .u16 bit] 24)).alloc (.cells #[.slice none 0 0, .int .i64 0] 126)).cell? ⟨w.heap.size + 1 + 1, 1, none⟩ = some (.int .i64 0) := by
  rw [World.cell?_alloc_at _ _ _ _ (by simp)]; rfl
 have b4 : ∀ o, (((w.alloc (.cells #[.slice (some ⟨r, 0, none⟩) n c, .int .i64 syn] 126)).alloc (.cells #[.int .u16 keep, .int .u16 bit] 24)).alloc (.cells #[.slice none 0 0, .int .i64 0] 126)).frozen? ⟨w.heap.size + 1 + 1, o, none⟩ = false := fun o => World.frozen?_alloc_at _ _ _ _ (by simp)
 have b5 := (hb3.cell (p := ⟨r, q, none⟩) hrl).trans hcell
 have b6 := (hb3.frozen (p := ⟨r, q, none⟩) hrl).trans hfr
 have hz : ∀ (o1 o2 o3 : Obj), (((w.alloc o1).alloc o2).alloc o3).heap.size = w.heap.size + 1 + 1 + 1 := fun _ _ _ => by simp
 have HB := Lib.hid hb3
 clear hb3 hcell hfr
 generalize hW : (((w.alloc (.cells #[.slice (some ⟨r, 0, none⟩) n c, .int .i64 syn] 126)).alloc (.cells #[.int .u16 keep, .int .u16 bit] 24)).alloc (.cells #[.slice none 0 0, .int .i64 0] 126)) = W3 at *
 have HW := Lib.hid hW
 clear hW hz
 go_region
 have hx : bits .xor .u8 (a : Int) (2 ^ bit % 256) = ((a ^^^ 2 ^ bit : Nat) : Int) := by
  have h8 : 2 ^ bit < 256 := by
   have : (2 : Nat) ^ bit ≤ 2 ^ 7 := Nat.pow_le_pow_right (by omega) (by omega)
   omega
  have h9 : ((2 ^ bit : Nat) : Int) = (2 : Int) ^ bit := by simp
  have h10 : (2 : Int) ^ bit % 256 = ((2 ^ bit : Nat) : Int) := by rw [← h9]; exact Int.emod_eq_of_lt (Int.natCast_nonneg _) (by exact_mod_cast h8)
  rw [h10]
  exact u8_xor_nat a (2 ^ bit) ha256 h8
 rw [hx]
 have e0 := (World.cell?_setCell_other W3 ⟨r, q, none⟩ ⟨w.heap.size, 0, none⟩ (.int .u8 ((a ^^^ 2 ^ bit : Nat) : Int)) (by simp <;> omega)).trans b0
 have e2 := (World.cell?_setCell_other W3 ⟨r, q, none⟩ ⟨w.heap.size + 1 + 1, 0, none⟩ (.int .u8 ((a ^^^ 2 ^ bit : Nat) : Int)) (by simp <;> omega)).trans b2
 have e3 := (World.cell?_setCell_other W3 ⟨r, q, none⟩ ⟨w.heap.size + 1 + 1, 1, none⟩ (.int .u8 ((a ^^^ 2 ^ bit : Nat) : Int)) (by simp <;> omega)).trans b3
 have e4 : ∀ o, (W3.setCell ⟨r, q, none⟩ (.int .u8 ((a ^^^ 2 ^ bit : Nat) : Int))).frozen? ⟨w.heap.size + 1 + 1, o, none⟩ = false := fun o => by rw [World.frozen?_setCell]; exact b4 o
 have ho4 := ownsRow_set (ownB_below HO.out HB.out) q (.int .u8 ((a ^^^ 2 ^ bit : Nat) : Int))
 have hon4 : Only (fun k => k = r) w (W3.setCell ⟨r, q, none⟩ (.int .u8 ((a ^^^ 2 ^ bit : Nat) : Int))) := (Only.of_below HB.out _).trans (Only.setCell (T := fun k => k = r) _ _ _ rfl) (fun _ h => .inl h)
 have H4 := Lib.hid ho4
 have HN4 := Lib.hid hon4
 clear ho4 hon4 b0 b1 b2 b3 b4 b5 b6 hx
 generalize (W3.setCell ⟨r, q, none⟩ (.int .u8 ((a ^^^ 2 ^ bit : Nat) : Int))) = W4 at *
 go_wp2
 have r0 : ((W4.setCell ⟨w.heap.size + 1 + 1, 0, none⟩ (.slice (some ⟨r, 0, none⟩) y c)).setCell ⟨w.heap.size + 1 + 1, 1, none⟩ (.int .i64 y)).drew.cell? ⟨w.heap.size + 1 + 1, 0, none⟩ = some (.slice (some ⟨r, 0, none⟩) y c) :=
  (World.cell?_setCell_other _ _ _ _ (by simp)).trans (World.cell?_setCell_same _ _ _ e2)
 have r1 : ((W4.setCell ⟨w.heap.size + 1 + 1, 0, none⟩ (.slice (some ⟨r, 0, none⟩) y c)).setCell ⟨w.heap.size + 1 + 1, 1, none⟩ (.int .i64 y)).drew.cell? ⟨w.heap.size + 1 + 1, 1, none⟩ = some (.int .i64 y) :=
  World.cell?_setCell_same _ _ _ ((World.cell?_setCell_other _ _ _ _ (by simp)).trans e3)
 have hon : Only (fun k => k = r) w ((W4.setCell ⟨w.heap.size + 1 + 1, 0, none⟩ (.slice (some ⟨r, 0, none⟩) y c)).setCell ⟨w.heap.size + 1 + 1, 1, none⟩ (.int .i64 y)).drew :=
  ((HN4.out.trans (Only.setCell (T := fun k => k = w.heap.size + 1 + 1) _ _ _ rfl) (fun i hi => .inr (by rw [hi]; omega))).trans (Only.setCell (T := fun k => k = w.heap.size + 1 + 1) _ _ _ rfl) (fun i hi => .inr (by rw [hi]; omega))).drew
 have hon2 : Only (fun k => k = w.heap.size + 1 + 1) W4 ((W4.setCell ⟨w.heap.size + 1 + 1, 0, none⟩ (.slice (some ⟨r, 0, none⟩) y c)).setCell ⟨w.heap.size + 1 + 1, 1, none⟩ (.int .i64 y)).drew :=
  ((Only.setCell (T := fun k => k = w.heap.size + 1 + 1) _ _ _ rfl).trans (Only.setCell (T := fun k => k = w.heap.size + 1 + 1) _ _ _ rfl) (fun i hi => .inl hi)).drew
 have ho := hon2.own H4.out (fun k hk e => by simp [Value.ownBlock] at hk; omega)
 generalize ((W4.setCell ⟨w.heap.size + 1 + 1, 0, none⟩ (.slice (some ⟨r, 0, none⟩) y c)).setCell ⟨w.heap.size + 1 + 1, 1, none⟩ (.int .i64 y)).drew = W5 at *
 refine bodyPost_ret (v := .agg #[.slice (some ⟨r, 0, none⟩) y c, .int .i64 y]) (by simp [results, Tryz.results51, go_sem, r0, r1]) rfl ⟨rfl, ?_, hon⟩
 have : (cellsB l).set q (.int .u8 ((a ^^^ 2 ^ bit : Nat) : Int)) = cellsB (l.set q (a ^^^ 2 ^ bit)) := by
  unfold cellsB
  rw [List.map_set]
  rfl
 rw [← this]
 exact ho
set_option maxRecDepth 100000 in
set_option maxHeartbeats 400000 in
theorem torn_plain (A : Option Addr) (n c syn keep bit : Nat) (w : World) (hA : A = none → c = 0) (hs : syn ≤ n) (hnc : n ≤ c) (hm : n ≤ 1048576) (hk : keep < 65536) (hp : min n (syn + keep) ≤ syn ∨ 8 ≤ bit) :
  Calls Tryz.prog 51 #[fileV (.slice A n c) syn, .agg #[.int .u16 keep, .int .u16 bit]] w fun e w' => e = .returned (fileV (.slice A (min n (syn + keep)) c) (min n (syn + keep) : Nat)) ∧ Below w.heap.size w w' := by
 obtain ⟨y, hy⟩ : ∃ y : Nat, y = min n (syn + keep) := ⟨_, rfl⟩
 rw [← hy] at hp ⊢
 have hyn : y ≤ n := by omega
 have hmin : ∀ (ts : Array TypeId) (t : TypeId) (w : World), (Builtin.min_ ts t #[.int .i64 n, .int .i64 ((syn : Int) + keep)]).run Tryz.prog w = .ok (.int .i64 y) w := fun ts t w => by
  rw [run_min_int2, hy]
  split <;> rename_i h' <;> congr 2 <;> omega
 have HY := Lib.hid hy
 clear hy
 have hsl : ∀ w : World, (Instr.sliceAt 77 (.slice A n c) none (some (.int .i64 y)) none).run Tryz.prog w = .ok (.slice A y c) w := fun w => by
  have hu : Tryz.prog.underlying 77 = some (.slice (Tryz.prog.elem 77)) := by kernel_rfl
  have hz : (sizeOf (Tryz.prog.elem 77)).run Tryz.prog w = .ok 1 w := by kernel_rfl
  rw [run_sliceAt_slice _ _ _ _ _ _ hu, run_slice_h _ _ _ _ _ hu .i64 (y : Int) (by omega) (by omega), hz]
  cases A <;> simp [Result.andThen, sliced, Addr.add]
 clear hA hnc
 have b3 : ∀ (o1 o2 o3 : Obj), Below w.heap.size w (((w.alloc o1).alloc o2).alloc o3) := fun o1 o2 o3 => (below_two w o1 o2).alloc (by simp; omega) o3
 have B3 := Lib.hid b3
 clear b3
 unfold fileV
 rcases hp with hp | hp
 ·go_enter Tryz.func51, Tryz.ntmps51
  go_wp2
  refine bodyPost_ret (v := .agg #[.slice A y c, .int .i64 y]) (by simp [results, Tryz.results51, go_sem]) rfl ⟨rfl, B3.out _ _ _⟩
 ·by_cases hp2 : y ≤ syn
  ·go_enter Tryz.func51, Tryz.ntmps51
   go_wp2
   refine bodyPost_ret (v := .agg #[.slice A y c, .int .i64 y]) (by simp [results, Tryz.results51, go_sem]) rfl ⟨rfl, B3.out _ _ _⟩
  ·have hd : decide ((bit : Int) < 8) = false := decide_eq_false (by omega)
   go_enter Tryz.func51, Tryz.ntmps51
   go_wp2
   refine bodyPost_ret (v := .agg #[.slice A y c, .int .i64 y]) (by simp [results, Tryz.results51, go_sem]) rfl ⟨rfl, B3.out _ _ _⟩
theorem fileIs_bounds {w : World} {S : Nat → Prop} {g : Nat} {mo : Option Nat} {x : Ent} {A : Option Addr} {c : Nat} (h : FileIs w S g mo x) (hv : x.v = .slice A x.by_.length c) : (A = none → c = 0) ∧ x.by_.length ≤ c ∧ (∀ a, A = some a → a = ⟨a.block, 0, none⟩) := by
 have ho := h.own
 rw [hv] at ho
 rcases ho.2 with ⟨e1, e2⟩ | ⟨g', cap, cur, e1, _, _, h3, _⟩
 ·injection e1 with e1 _ e3
  exact ⟨fun _ => e3, by omega, (fun a ha => by rw [e1] at ha; cases ha)⟩
 ·injection e1 with e1 _ e3
  exact ⟨(fun h => by rw [e1] at h; cases h), by omega, (fun a ha => by rw [e1] at ha; injection ha with ha; rw [← ha])⟩
theorem ownBlock_slice (A : Option Addr) (n c n' c' : Nat) : (Value.slice A n c).ownBlock = (Value.slice A n' c').ownBlock := by cases A <;> rfl
theorem torn_any {S : Nat → Prop} {g : Nat} {mo : Option Nat} {x : Ent} (keep bit : Nat) (w : World) (h : FileIs w S g mo x) (hk : keep < 65536) :
  Calls Tryz.prog 51 #[x.val, .agg #[.int .u16 keep, .int .u16 bit]] w fun e w' => ∃ x' : Ent, e = .returned x'.val ∧ (∃ A n c, x'.v = .slice A n c) ∧ x'.fl = tornF x.fl keep bit ∧ FileIs w' S g mo x' ∧ x'.v.ownBlock = x.v.ownBlock ∧ Only (fun k => some k = x.v.ownBlock) w w' := by
 obtain ⟨A, c, hv⟩ := ownB_slice h.own
 obtain ⟨b1, b2, b3⟩ := fileIs_bounds h hv
 have hyl : min x.by_.length (x.syn + keep) ≤ x.by_.length := by omega
 have hsy := h.syn
 by_cases hp : x.syn < min x.by_.length (x.syn + keep) ∧ bit < 8
 ·cases A with
  | none => have := b1 rfl; omega
  | some a =>
    have ha := b3 a rfl
    generalize hr : a.block = r at ha
    subst ha
    have ho := h.own
    rw [hv] at ho
    have hx : x.val = fileV (.slice (some ⟨r, 0, none⟩) x.by_.length c) x.syn := by unfold Ent.val; rw [hv]
    rw [hx]
    refine (torn_flip r x.by_.length c x.syn keep bit x.by_ w rfl ho h.syn h.max hk h.ok hp.2 hp.1).mono ?_
    rintro e w' ⟨rfl, k1, k2⟩
    have hfl : tornF x.fl keep bit = ⟨(x.by_.set (min x.by_.length (x.syn + keep) - 1) (x.by_.getD (min x.by_.length (x.syn + keep) - 1) 0 ^^^ 2 ^ bit)).take (min x.by_.length (x.syn + keep)), min x.by_.length (x.syn + keep)⟩ := by
     unfold tornF
     show Fl.mk (if x.syn < min x.by_.length (x.syn + keep) ∧ bit < 8 then _ else _) _ = _
     rw [if_pos hp]
     rfl
    generalize hy : min x.by_.length (x.syn + keep) = y at *
    have hlen : ((x.by_.set (y - 1) (x.by_.getD (y - 1) 0 ^^^ 2 ^ bit)).take y).length = y := by rw [List.length_take, List.length_set]; omega
    have hlt : y - 1 < x.by_.length := by omega
    have hb8 : x.by_.getD (y - 1) 0 ^^^ 2 ^ bit < 2 ^ 8 := by
     refine Nat.xor_lt_two_pow ?_ ?_
     ·rw [List.getD_eq_getElem?_getD, List.getElem?_eq_getElem hlt]; exact h.ok _ (List.getElem_mem hlt)
     ·exact Nat.pow_lt_pow_right (by omega) hp.2
    refine ⟨⟨.slice (some ⟨r, 0, none⟩) y c, (x.by_.set (y - 1) (x.by_.getD (y - 1) 0 ^^^ 2 ^ bit)).take y, y⟩, rfl, ⟨_, _, _, rfl⟩, hfl.symm, ⟨?_, ?_, ?_, ?_, ?_⟩, by rw [hv]; rfl, k2.mono (fun k hk => by rw [hk, hv]; rfl)⟩
    ·have := ownsRow_take k1 hyl
     show World.ownsRow _ _ _ _ _ (List.length _) _
     rw [hlen]
     unfold cellsB at this ⊢
     rw [List.map_take]
     exact this
    ·show y ≤ List.length _
     rw [hlen]; exact Nat.le_refl _
    ·refine OkB.take (fun z hz => ?_) _
     rcases List.mem_or_eq_of_mem_set hz with hz | hz
     ·exact h.ok z hz
     ·rw [hz]; exact hb8
    ·show List.length _ ≤ _
     rw [hlen]; have := h.max; omega
    ·have := h.S
     rw [hv] at this
     exact this
 ·have hp' : min x.by_.length (x.syn + keep) ≤ x.syn ∨ 8 ≤ bit := by
   by_cases h1 : x.syn < min x.by_.length (x.syn + keep)
   ·exact .inr (by by_cases h2 : bit < 8; exact absurd ⟨h1, h2⟩ hp; omega)
   ·exact .inl (by omega)
  have hx : x.val = fileV (.slice A x.by_.length c) x.syn := by unfold Ent.val; rw [hv]
  rw [hx]
  refine (torn_plain A x.by_.length c x.syn keep bit w b1 h.syn b2 h.max hk hp').mono ?_
  rintro e w' ⟨rfl, k1⟩
  have hfl : tornF x.fl keep bit = ⟨x.by_.take (min x.by_.length (x.syn + keep)), min x.by_.length (x.syn + keep)⟩ := by
   unfold tornF
   show Fl.mk (if x.syn < min x.by_.length (x.syn + keep) ∧ bit < 8 then _ else _) _ = _
   rw [if_neg hp]
   rfl
  generalize hy : min x.by_.length (x.syn + keep) = y at *
  have hlen : (x.by_.take y).length = y := by rw [List.length_take]; omega
  have h' := h.below k1
  refine ⟨⟨.slice A y c, x.by_.take y, y⟩, rfl, ⟨_, _, _, rfl⟩, hfl.symm, ⟨?_, ?_, ?_, ?_, ?_⟩, by rw [hv]; exact ownBlock_slice _ _ _ _ _, Only.of_below k1 _⟩
  ·have ho := h'.own
   rw [hv] at ho
   have := ownsRow_take ho hyl
   show World.ownsRow _ _ _ _ _ (List.length _) _
   rw [hlen]
   unfold cellsB at this ⊢
   rw [List.map_take]
   exact this
  ·show y ≤ List.length _
   rw [hlen]; exact Nat.le_refl _
  ·exact h.ok.take _
  ·show List.length _ ≤ _
   rw [hlen]; have := h.max; omega
  ·have := h.S
   rw [hv, ownBlock_slice A x.by_.length c y c] at this
   exact this
section
variable {α : Type}
theorem rising_set {L : List (ByteArray × α)} (h : Rising L) {i : Nat} {s : ByteArray} {f : α} (hi : L[i]? = some (s, f)) (x : α) : Rising (L.set i (s, x)) := by
 have h1 : Rising L ↔ (L.map (·.1)).Pairwise fun a b => ltS a b = true := by unfold Rising; rw [List.pairwise_map]
 have h2 : Rising (L.set i (s, x)) ↔ ((L.set i (s, x)).map (·.1)).Pairwise fun a b => ltS a b = true := by unfold Rising; rw [List.pairwise_map]
 rw [h2]
 rw [h1] at h
 have : (L.set i (s, x)).map (·.1) = L.map (·.1) := by
  rw [List.map_set]
  apply List.ext_getElem?
  intro j
  rw [List.getElem?_set]
  split
  ·rename_i e
   subst e
   rw [List.getElem?_map, hi]
   have := (List.getElem?_eq_some_iff.1 hi).1
   simp [this]
  ·rfl
 rw [this]
 exact h
theorem put_set {L : List (ByteArray × α)} (h : Rising L) {i : Nat} {s : ByteArray} {f : α} (hi : L[i]? = some (s, f)) (x : α) : putP L s x = L.set i (s, x) := by
 have hil := (List.getElem?_eq_some_iff.1 hi).1
 refine rising_ext (rising_put h s x) (rising_set h hi x) (fun p => ?_)
 rw [mem_putP]
 constructor
 ·rintro (rfl | ⟨h1, h2⟩)
  ·exact List.mem_iff_getElem?.2 ⟨i, by rw [List.getElem?_set]; simp [hil]⟩
  ·obtain ⟨j, hj⟩ := List.mem_iff_getElem?.1 h1
   refine List.mem_iff_getElem?.2 ⟨j, ?_⟩
   rw [List.getElem?_set, if_neg, hj]
   intro e
   subst e
   rw [hi] at hj
   injection hj with hj
   exact h2 (by rw [← hj])
 ·intro hp
  obtain ⟨j, hj⟩ := List.mem_iff_getElem?.1 hp
  rw [List.getElem?_set] at hj
  by_cases hne : i = j
  ·rw [if_pos hne, if_pos (by omega)] at hj
   injection hj with hj
   exact .inl hj.symm
  ·rw [if_neg hne] at hj
   refine .inr ⟨List.mem_iff_getElem?.2 ⟨j, hj⟩, fun e => ?_⟩
   have hjl := (List.getElem?_eq_some_iff.1 hj).1
   rcases Nat.lt_or_gt_of_ne hne with hlt | hlt
   ·have := List.pairwise_iff_getElem.1 h i j hil hjl hlt
    rw [(List.getElem?_eq_some_iff.1 hi).2, (List.getElem?_eq_some_iff.1 hj).2] at this
    exact ltS_ne this e.symm
   ·have := List.pairwise_iff_getElem.1 h j i hjl hil hlt
    rw [(List.getElem?_eq_some_iff.1 hi).2, (List.getElem?_eq_some_iff.1 hj).2] at this
    exact ltS_ne this e
theorem find_at {L : List (ByteArray × α)} (h : Rising L) {i : Nat} {s : ByteArray} {f : α} (hi : L[i]? = some (s, f)) : findP L s = some f :=
 findP_mem h (List.mem_iff_getElem?.2 ⟨i, hi⟩)
end
def tearAt (ts : List (Nat × Nat)) (i : Nat) : Nat × Nat := ts.getD i (0, 0)
def crashK (L : List (ByteArray × Fl)) (ts : List (Nat × Nat)) : Nat → List (ByteArray × Fl)
 | 0 => L
 | k + 1 => match L[k]? with
   | some p => (crashK L ts k).set k (p.1, tornF p.2 (tearAt ts k).1 (tearAt ts k).2)
   | none => crashK L ts k
def crashL (L : List (ByteArray × Fl)) (ts : List (Nat × Nat)) : List (ByteArray × Fl) := crashK L ts L.length
theorem crashK_length (L : List (ByteArray × Fl)) (ts : List (Nat × Nat)) : ∀ k, (crashK L ts k).length = L.length
 | 0 => rfl
 | k + 1 => by
   unfold crashK
   split
   ·rw [List.length_set]; exact crashK_length L ts k
   ·exact crashK_length L ts k
theorem crashK_at (L : List (ByteArray × Fl)) (ts : List (Nat × Nat)) : ∀ (k i : Nat), (crashK L ts k)[i]? = if i < k then (L[i]?).map (fun p => (p.1, tornF p.2 (tearAt ts i).1 (tearAt ts i).2)) else L[i]?
 | 0, i => by simp [crashK]
 | k + 1, i => by
   have ih := crashK_at L ts k
   unfold crashK
   cases e : L[k]? with
   | none =>
     simp only [ih]
     by_cases h1 : i < k
     ·simp [h1, Nat.lt_succ_of_lt h1]
     ·by_cases h2 : i = k
      ·subst h2; simp [e]
      ·have h3 : ¬ i < k + 1 := by omega
       simp [h1, h3]
   | some p =>
     have hl := (List.getElem?_eq_some_iff.1 e).1
     simp only [List.getElem?_set, crashK_length]
     by_cases h2 : k = i
     ·subst h2
      rw [if_pos rfl, if_pos hl, if_pos (Nat.lt_succ_self k), e]
      rfl
     ·rw [if_neg h2, ih]
      by_cases h1 : i < k
      ·rw [if_pos h1, if_pos (by omega)]
      ·rw [if_neg h1, if_neg (by omega)]
def RdTe (w : World) (B : Nat) (A : Option Addr) (ts : List (Nat × Nat)) : Prop :=
 0 < ts.length → ∃ b o, A = some ⟨b, o, none⟩ ∧ b < B ∧ ∀ (i : Nat) (t : Nat × Nat), ts[i]? = some t → w.cell? ⟨b, o + i * 2, none⟩ = some (.int .u16 t.1) ∧ w.cell? ⟨b, o + i * 2 + 1, none⟩ = some (.int .u16 t.2)
def OkT (ts : List (Nat × Nat)) : Prop := ∀ t ∈ ts, t.1 < 65536 ∧ t.2 < 65536
theorem RdTe.only {T : Nat → Prop} {w w' : World} {B : Nat} {A : Option Addr} {ts : List (Nat × Nat)} (h : RdTe w B A ts) (ho : Only T w w') (hB : B ≤ w.heap.size) (hT : ∀ a, A = some a → 0 < ts.length → ¬ T a.block) : RdTe w' B A ts := fun h0 => by
 obtain ⟨b, o, e, hb, hc⟩ := h h0
 exact ⟨b, o, e, hb, fun i t ht => ⟨(ho.cell (p := ⟨b, o + i * 2, none⟩) (by show b < _; omega) (hT ⟨b, o, none⟩ e h0)).trans (hc i t ht).1, (ho.cell (p := ⟨b, o + i * 2 + 1, none⟩) (by show b < _; omega) (hT ⟨b, o, none⟩ e h0)).trans (hc i t ht).2⟩⟩
theorem DkM.name_le {S : Nat → Prop} {g : Nat} {mo : Option Nat} {E : Ents} {wr sy : Nat} {w : World} (h : DkM w S g mo E wr sy) : ∀ p ∈ E, p.1.size ≤ maxLen := by
 intro p hp
 rcases h.mp with ⟨_, rfl⟩ | ⟨b, _, _, _, ho⟩
 ·cases hp
 ·have := strKeys_le ho Tryz.underlying9
  rw [strKeys_datum] at this
  have h2 := this p.1.data.toList (List.mem_map.2 ⟨p, hp, rfl⟩)
  rw [Array.length_toList] at h2
  exact h2
theorem Disk.name_le {S : Nat → Prop} {g : Nat} {L : List (ByteArray × Fl)} {wr sy : Nat} {w : World} (h : Disk w S g L wr sy) : ∀ p ∈ L, p.1.size ≤ maxLen := by
 obtain ⟨E, mo, rfl, h1, _⟩ := h
 intro p hp
 obtain ⟨q, hq, rfl⟩ := List.mem_map.1 hp
 exact h1.name_le q hq
theorem rising_mapS {α β : Type} (g : α → β) {l : List (ByteArray × α)} (h : Rising l) : Rising (mapS g l) := List.pairwise_map.2 h
theorem Disk.rise {S : Nat → Prop} {g : Nat} {L : List (ByteArray × Fl)} {wr sy : Nat} {w : World} (h : Disk w S g L wr sy) : Rising L := by
 obtain ⟨E, mo, rfl, h1, _⟩ := h
 exact rising_mapS _ h1.rise
theorem Disk.few {S : Nat → Prop} {g : Nat} {L : List (ByteArray × Fl)} {wr sy : Nat} {w : World} (h : Disk w S g L wr sy) : L.length ≤ 64 := by
 obtain ⟨E, mo, rfl, h1, _⟩ := h
 rw [mapS_length]; exact h1.few
theorem crash_step {L : List (ByteArray × Fl)} {ts : List (Nat × Nat)} {k : Nat} {s : ByteArray} {f : Fl} {E : Ents} {x x' : Ent} {ke bi : Nat} (hr : Rising E) (hLk : L[k]? = some (s, f)) (hE : mapS Ent.fl E = crashK L ts k) (hxf : x.fl = f)
  (hta : tearAt ts k = (ke, bi)) (hfl : x'.fl = tornF x.fl ke bi) : mapS Ent.fl (putP E s x') = crashK L ts (k + 1) := by
 have hkk : (crashK L ts k)[k]? = some (s, f) := by rw [crashK_at, if_neg (Nat.lt_irrefl _), hLk]
 have hrr : Rising (crashK L ts k) := hE ▸ rising_mapS Ent.fl hr
 rw [mapS_put, hE, put_set hrr hkk, hfl, hxf]
 conv => rhs; unfold crashK
 rw [hLk, hta]
set_option maxRecDepth 100000 in
set_option maxHeartbeats 1000000 in
theorem crash_any {S : Nat → Prop} {g : Nat} {L : List (ByteArray × Fl)} {wr0 sy : Nat} {A : Option Addr} {n c : Nat} {ts : List (Nat × Nat)} (w : World) (h : Disk w S g L wr0 sy) (hn : n = ts.length) (hnm : n ≤ 140737488351232) (hr : RdTe w w.heap.size A ts)
  (hT : ∀ a, A = some a → 0 < ts.length → ¬ S a.block) (hok : OkT ts) :
  Calls Tryz.prog 21 #[.pointer (some ⟨g, 0, none⟩), .slice A n c] w fun e w' => e = .returned (.tuple #[]) ∧ Leaves w w' S g (crashL L ts) wr0 sy := by
 have HD := Lib.hid h
 have HR := Lib.hid hr
 have HTn := Lib.hid hT
 have HN := Lib.hid hn
 have HOk := Lib.hid hok
 have hfew := h.few
 clear h hr hT hn hok
 go_enter Tryz.func21, Tryz.ntmps21
 go_wp2_with fail
 refine (names_any w HD.out).mono ?_
 rintro e w1 ⟨v, rfl, ho, hb⟩
 obtain ⟨V, vc, rfl⟩ := ownB_slice ho
 have HO := Lib.hid ho
 have HB := Lib.hid hb
 have hsz1 := hb.size
 have H1 := Lib.hid (HD.out.below hb)
 clear ho hb
 go_wp2
 go_loopw [10] (fun iv w2 => ∃ (k : Nat) (S' : Nat → Prop), k ≤ L.length ∧ iv = .int .i64 k ∧ Hid (Disk w2 S' g (crashK L ts k) wr0 sy) ∧ Hid (Step w1 S w2 S')) (fun iv _ => L.length - (intOf iv).toNat)
 case atStart => exact ⟨0, S, Nat.zero_le _, rfl, H1.out, Step.refl _ _⟩
 case round =>
  obtain ⟨k, S', hk, rfl, Hd, Hst⟩ := hrel
  by_cases hlt : k < L.length
  ·obtain ⟨s, f, hLk⟩ : ∃ s f, L[k]? = some (s, f) := ⟨L[k].1, L[k].2, List.getElem?_eq_getElem hlt⟩
   have hkk : (crashK L ts k)[k]? = some (s, f) := by rw [crashK_at, if_neg (Nat.lt_irrefl _), hLk]
   have hfd := find_at Hd.out.rise hkk
   have hsn := Hd.out.name_le _ (findP_some hfd)
   -- the name
   obtain ⟨r, cap, hV, hrb, hrl⟩ := HO.out.form (by omega)
   injection hV with hV1 hV2 hV3
   subst hV1
   subst hV3
   clear hV2
   have hnr : ¬ S' r := fun hs => by
    rcases Hst.out.new r hs with h' | h'
    ·have := (HD.out); obtain ⟨E, mo, _, h1, _⟩ := this; have := h1.lt r h'; omega
    ·omega
   have hnS : ¬ S r := fun hs => by obtain ⟨E, mo, _, h1, _⟩ := HD.out; have := h1.lt r hs; omega
   have hnm1 : w1.cell? ⟨r, k, none⟩ = some (.string s) := by
    have := HO.out.cells (g := r) rfl k (.string s) (by unfold nmCells; rw [List.getElem?_map, hLk]; rfl)
    rw [Addr.add_lit] at this
    rw [← this]
    congr 2
    omega
   have hnm2 := (Hst.out.only.cell (p := ⟨r, k, none⟩) hrl hnS).trans hnm1
   have HLk := Lib.hid hLk
   have HKk := Lib.hid hkk
   have HFd := Lib.hid hfd
   have HSn := Lib.hid hsn
   clear hLk hkk hfd hsn hnm1
   obtain ⟨E, mo, hE, h1, h2⟩ := Hd.out
   obtain ⟨x, hx, hxf⟩ := fl_some hE HFd.out
   have hix := h2.each _ (findP_some hx)
   have HE : Hid (DkM wr S' g mo E wr0 sy ∧ Files wr S' g mo E ∧ findP E s = some x ∧ FileIs wr S' g mo x) := ⟨h1, h2, hx, hix⟩
   have HEq : Hid (mapS Ent.fl E = crashK L ts k ∧ x.fl = f) := ⟨hE, hxf⟩
   clear hE h1 h2 hx hxf hix
   by_cases ht : k < ts.length
   ·have hkn : k < n := by rw [HN.out]; exact ht
    have hkn2 : (k : Int) < (n : Int) := by omega
    obtain ⟨tb, too, rfl, htb, htc⟩ := HR.out (by omega)
    have hnSt := HTn.out _ rfl (by omega)
    obtain ⟨ke, bi, htk⟩ : ∃ ke bi, ts[k]? = some (ke, bi) := ⟨ts[k].1, ts[k].2, List.getElem?_eq_getElem ht⟩
    have hke : ke < 65536 ∧ bi < 65536 := HOk.out _ (List.mem_iff_getElem?.2 ⟨k, htk⟩)
    have t0 := (Hst.out.only.cell (p := ⟨tb, too + k * 2, none⟩) (by show tb < _; omega) hnSt).trans ((HB.out.cell (p := ⟨tb, too + k * 2, none⟩) htb).trans (htc k _ htk).1)
    have t1 := (Hst.out.only.cell (p := ⟨tb, too + k * 2 + 1, none⟩) (by show tb < _; omega) hnSt).trans ((HB.out.cell (p := ⟨tb, too + k * 2 + 1, none⟩) htb).trans (htc k _ htk).2)
    have Hta : Hid (tearAt ts k = (ke, bi)) := by
     show _ = _
     unfold tearAt
     rw [List.getD_eq_getElem?_getD, htk]
     rfl
    have htbr : tb < wr.heap.size := by have := Hst.out.only.size; omega
    clear htc htk
    go_wp2
    have hput : ∀ (x' : Ent) (w2 : World), FileIs w2 S' g mo x' → x'.v.ownBlock = x.v.ownBlock → Only (fun k => some k = x.v.ownBlock) (wr.alloc (.cells #[.int .u16 ke, .int .u16 bi] 24)).drew w2 →
      Calls Tryz.prog 50 #[.pointer (some ⟨g, 0, none⟩), .string s, x'.val] w2 fun e w' => e = .returned (.tuple #[]) ∧ ∃ S'' mo', DkM w' S'' g mo' (putP E s x') wr0 sy ∧ Files w' S'' g mo' (putP E s x') ∧ Step w2 S' w' S'' := fun x' w2 hx' how hon => by
     obtain ⟨h1, h2, hx, hix⟩ := HE.out
     have hb2 : Below wr.heap.size wr (wr.alloc (.cells #[.int .u16 ke, .int .u16 bi] 24)).drew := ((Below.refl _ _).alloc (Nat.le_refl _) _).drew
     have hix2 := hix
     refine dput_any (x := x') w2 ((h1.below hb2).keep2 hon (fun e => (hix2.S g e.symm).2.1 rfl) (fun b hb e => (hix2.S b e.symm).2.2 hb.symm)) (((h2.del s).below hb2).keep2 hon (fun p hp k hk e => ?_)) hx' (fun p hp => ?_) ?_ HSn.out
     ·rcases h2.apart_del hx p hp with h' | h'
      ·rw [h'] at e; cases e
      ·exact h' (e.symm.trans hk.symm)
     ·have := h2.apart_del hx p hp
      unfold Far at this ⊢
      rw [how]
      exact this
     ·exact Nat.le_trans (putP_length_some hx _) h1.few
    have HP := Lib.hid hput
    have htorn := torn_any ke bi (wr.alloc (.cells #[.int .u16 ke, .int .u16 bi] 24)).drew (HE.out.2.2.2.below (((Below.refl _ _).alloc (Nat.le_refl _) _).drew)) hke.1
    have HT := Lib.hid htorn
    have hlk : (Instr.lookup 86 (.map mo) (.string s) false).run Tryz.prog (wr.alloc (.cells #[.int .u16 ke, .int .u16 bi] 24)).drew = .ok x.val (wr.alloc (.cells #[.int .u16 ke, .int .u16 bi] 24)).drew := by
     have := ((HE.out.1.below (((Below.refl _ wr).alloc (Nat.le_refl _) (.cells #[.int .u16 ke, .int .u16 bi] 24)).drew)).mp).at_ HSn.out
     rw [lookE_some HE.out.2.2.1] at this
     exact this
    have c0 : (wr.alloc (.cells #[.int .u16 ke, .int .u16 bi] 24)).cell? ⟨g, 0, none⟩ = some (.map mo) := (World.cell?_alloc_past _ _ _ (HE.out.1.lt g HE.out.1.gS)).trans HE.out.1.c0
    have d0 : (wr.alloc (.cells #[.int .u16 ke, .int .u16 bi] 24)).cell? ⟨wr.heap.size, 0, none⟩ = some (.int .u16 ke) := by rw [World.cell?_alloc_at _ _ _ _ rfl]; rfl
    have d1 : (wr.alloc (.cells #[.int .u16 ke, .int .u16 bi] 24)).cell? ⟨wr.heap.size, 1, none⟩ = some (.int .u16 bi) := by rw [World.cell?_alloc_at _ _ _ _ rfl]; rfl
    have HBw := Lib.hid ((Below.refl wr.heap.size wr).alloc (Nat.le_refl _) (.cells #[.int .u16 ke, .int .u16 bi] 24)).drew
    clear hput htorn hnm2 t0 t1 htbr
    generalize (wr.alloc (.cells #[.int .u16 ke, .int .u16 bi] 24)) = W1 at *
    go_region_with ((first
     | (go_at_call 51; (with_reducible refine HT.out.mono ?_); rintro e w2 ⟨x', rfl, _, hfl, hfi, how, hon⟩; replace hfl := Lib.hid hfl; replace hfi := Lib.hid hfi; replace how := Lib.hid how; replace hon := Lib.hid hon)
     | (go_at_call 50; (with_reducible refine (HP.out x' _ hfi.out how.out hon.out).mono ?_); rintro e w3 ⟨rfl, S'', mo', l1, l2, l3⟩; replace l1 := Lib.hid l1; replace l2 := Lib.hid l2; replace l3 := Lib.hid l3)))
    all_goals
     have Hd' : Hid (Disk w3 S'' g (crashK L ts (k + 1)) wr0 sy) := ⟨_, mo', crash_step HE.out.1.rise HLk.out HEq.out.1 HEq.out.2 Hta.out hfl.out, l1.out, l2.out⟩
     have hown : Only S' W1.drew w2 := hon.out.mono (fun i hi => (HE.out.2.2.2.S i hi.symm).1)
     have Hst' : Hid (Step w1 S w3 S'') := (Hst.out.trans (Step.of_below S' HBw.out)).trans ((⟨hown, fun _ h => .inl h⟩ : Step W1.drew S' w2 S').trans l3.out)
     clear hown
     go_wp2
     go_roundw
     case rel => exact ⟨k + 1, S'', by omega, by go_num, Hd', Hst'⟩
     case measure => simp [intOf]; omega
   ·have htn : decide (k < n) = false := decide_eq_false (by rw [HN.out]; exact ht)
    have Hta : Hid (tearAt ts k = (0, 0)) := by
     show _ = _
     unfold tearAt
     rw [List.getD_eq_getElem?_getD, List.getElem?_eq_none (by omega)]
     rfl
    go_wp2
    have hput : ∀ (x' : Ent) (w2 : World), FileIs w2 S' g mo x' → x'.v.ownBlock = x.v.ownBlock → Only (fun k => some k = x.v.ownBlock) (wr.alloc (.cells #[.int .u16 0, .int .u16 0] 24)).drew w2 →
      Calls Tryz.prog 50 #[.pointer (some ⟨g, 0, none⟩), .string s, x'.val] w2 fun e w' => e = .returned (.tuple #[]) ∧ ∃ S'' mo', DkM w' S'' g mo' (putP E s x') wr0 sy ∧ Files w' S'' g mo' (putP E s x') ∧ Step w2 S' w' S'' := fun x' w2 hx' how hon => by
     obtain ⟨h1, h2, hx, hix⟩ := HE.out
     have hb2 : Below wr.heap.size wr (wr.alloc (.cells #[.int .u16 0, .int .u16 0] 24)).drew := ((Below.refl _ _).alloc (Nat.le_refl _) _).drew
     have hix2 := hix
     refine dput_any (x := x') w2 ((h1.below hb2).keep2 hon (fun e => (hix2.S g e.symm).2.1 rfl) (fun b hb e => (hix2.S b e.symm).2.2 hb.symm)) (((h2.del s).below hb2).keep2 hon (fun p hp k hk e => ?_)) hx' (fun p hp => ?_) ?_ HSn.out
     ·rcases h2.apart_del hx p hp with h' | h'
      ·rw [h'] at e; cases e
      ·exact h' (e.symm.trans hk.symm)
     ·have := h2.apart_del hx p hp
      unfold Far at this ⊢
      rw [how]
      exact this
     ·exact Nat.le_trans (putP_length_some hx _) h1.few
    have HP := Lib.hid hput
    have htorn := torn_any 0 0 (wr.alloc (.cells #[.int .u16 0, .int .u16 0] 24)).drew (HE.out.2.2.2.below (((Below.refl _ _).alloc (Nat.le_refl _) _).drew)) (by omega)
    rw [show ((0 : Nat) : Int) = 0 from rfl] at htorn
    have HT := Lib.hid htorn
    have hlk : (Instr.lookup 86 (.map mo) (.string s) false).run Tryz.prog (wr.alloc (.cells #[.int .u16 0, .int .u16 0] 24)).drew = .ok x.val (wr.alloc (.cells #[.int .u16 0, .int .u16 0] 24)).drew := by
     have := ((HE.out.1.below (((Below.refl _ wr).alloc (Nat.le_refl _) (.cells #[.int .u16 0, .int .u16 0] 24)).drew)).mp).at_ HSn.out
     rw [lookE_some HE.out.2.2.1] at this
     exact this
    have c0 : (wr.alloc (.cells #[.int .u16 0, .int .u16 0] 24)).cell? ⟨g, 0, none⟩ = some (.map mo) := (World.cell?_alloc_past _ _ _ (HE.out.1.lt g HE.out.1.gS)).trans HE.out.1.c0
    have d0 : (wr.alloc (.cells #[.int .u16 0, .int .u16 0] 24)).cell? ⟨wr.heap.size, 0, none⟩ = some (.int .u16 0) := by rw [World.cell?_alloc_at _ _ _ _ rfl]; rfl
    have d1 : (wr.alloc (.cells #[.int .u16 0, .int .u16 0] 24)).cell? ⟨wr.heap.size, 1, none⟩ = some (.int .u16 0) := by rw [World.cell?_alloc_at _ _ _ _ rfl]; rfl
    have HBw := Lib.hid ((Below.refl wr.heap.size wr).alloc (Nat.le_refl _) (.cells #[.int .u16 0, .int .u16 0] 24)).drew
    clear hput htorn hnm2
    generalize (wr.alloc (.cells #[.int .u16 0, .int .u16 0] 24)) = W1 at *
    go_region_with ((first
     | (go_at_call 51; (with_reducible refine HT.out.mono ?_); rintro e w2 ⟨x', rfl, _, hfl, hfi, how, hon⟩; replace hfl := Lib.hid hfl; replace hfi := Lib.hid hfi; replace how := Lib.hid how; replace hon := Lib.hid hon)
     | (go_at_call 50; (with_reducible refine (HP.out x' _ hfi.out how.out hon.out).mono ?_); rintro e w3 ⟨rfl, S'', mo', l1, l2, l3⟩; replace l1 := Lib.hid l1; replace l2 := Lib.hid l2; replace l3 := Lib.hid l3)))
    all_goals
     have Hd' : Hid (Disk w3 S'' g (crashK L ts (k + 1)) wr0 sy) := ⟨_, mo', crash_step HE.out.1.rise HLk.out HEq.out.1 HEq.out.2 Hta.out hfl.out, l1.out, l2.out⟩
     have hown : Only S' W1.drew w2 := hon.out.mono (fun i hi => (HE.out.2.2.2.S i hi.symm).1)
     have Hst' : Hid (Step w1 S w3 S'') := (Hst.out.trans (Step.of_below S' HBw.out)).trans ((⟨hown, fun _ h => .inl h⟩ : Step W1.drew S' w2 S').trans l3.out)
     clear hown
     go_wp2
     go_roundw
     case rel => exact ⟨k + 1, S'', by omega, by go_num, Hd', Hst'⟩
     case measure => simp [intOf]; omega
  ·obtain rfl : k = L.length := by omega
   have hd : decide (L.length < L.length) = false := decide_eq_false (Nat.lt_irrefl _)
   go_wp2
   go_end0
   exact ⟨rfl, S', Hd.out, (Step.of_below S HB.out).trans Hst.out⟩
end Go.Proofs.YtholdcgkhicdmaaGreatDoor