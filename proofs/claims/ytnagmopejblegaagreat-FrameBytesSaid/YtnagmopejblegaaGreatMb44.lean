/- Several texts in one: ItApp, ItRbGap. -/
import Derived.Test.YtnagmopejblegaaGreatMb3
import Derived.Test.YtnagmopejblegaaGreatMb4
import Derived.Test.YtnagmopejblegaaGreatMb5
import Derived.Test.YtnagmopejblegaaGreatMb6
import Derived.Test.YtnagmopejblegaaGreatMb9
import Derived.Test.YtnagmopejblegaaGreatMb11
import Derived.Test.YtnagmopejblegaaGreatMb26
import Derived.Test.YtnagmopejblegaaGreatMb27
/- A row of bytes that is appended to, and rows that wait to be appended: in plain regions and in those that draw. -/
namespace Go.Proofs.YtnagmopejblegaaGreat
open Go.RowKit

/-- the row v of the bytes l is newer than W; all else of W is as it was -/
structure Rows2 (W V : World) (v : Value) (l : List Nat) : Prop where
  bl : Below W.heap.size W V
  ow : V.ownsRow W.heap.size 5 1 v l.length (cellsB l)
/-- a row that waits -/
def Pend (W V : World) (v u : Value) (s : List Nat) : Prop := V.ownsRow W.heap.size 5 1 u s.length (cellsB s) ∧ (u.ownBlock = none ∨ u.ownBlock ≠ v.ownBlock)
section
variable {W V V' : World} {v v' u u2 : Value} {l s s2 : List Nat}
theorem Rows2.call (h : Rows2 W V v l) (hb : Below V.heap.size V V') : Rows2 W V' v l := ⟨h.bl.trans (hb.mono h.bl.size), own_below h.ow hb⟩
theorem Pend.call (h : Pend W V v u s) (hb : Below V.heap.size V V') : Pend W V' v u s := ⟨own_below h.1 hb, h.2⟩
theorem Pend.new {n : Nat} (h : Rows2 W V v l) (ho : V'.ownsRow V.heap.size 5 1 u n (cellsB s)) (hn : n = s.length) : Pend W V' v u s := by
  subst hn
  refine ⟨ownB_mono ho h.bl.size, ?_⟩
  cases hu : u.ownBlock with
  | none => exact .inl rfl
  | some k =>
    refine .inr fun e => ?_
    have h1 := (ho.lt k hu).1
    have h2 := (h.ow.lt k e.symm).2
    omega
theorem Rows2.app {m : Nat} (h : Rows2 W V v l) (hm : m = s.length) (ho : V'.ownsRow W.heap.size 5 1 v' (l.length + m) (cellsB l ++ cellsB s)) (hg : V.grownBy V' v.ownBlock) : Rows2 W V' v' (l ++ s) :=
  ⟨h.bl.grown hg h.bl.size (fun k e => (h.ow.lt k e).1), by rw [cellsB_append, List.length_append, ← hm]; exact ho⟩
theorem Pend.app (hp : Pend W V v u2 s2) (hg : V.grownBy V' v.ownBlock) (hb : v'.ownBlock = v.ownBlock ∨ v'.ownBlock = some V.heap.size) : Pend W V' v' u2 s2 := by
  refine ⟨hp.1.kept hg hp.2, ?_⟩
  cases hu : u2.ownBlock with
  | none => exact .inl rfl
  | some k =>
    refine .inr fun e => ?_
    rcases hb with h1 | h1
    · rcases hp.2 with h2 | h2
      · rw [hu] at h2; cases h2
      · exact h2 (by rw [hu, e, h1])
    · have h3 := (hp.1.lt k hu).2
      rw [h1] at e
      injection e with e
      omega
theorem Pend.slice (h : Pend W V v u s) : ∃ A c, u = .slice A s.length c := ownB_slice h.1
theorem Rows2.slice (h : Rows2 W V v l) : ∃ A c, v = .slice A l.length c := ownB_slice h.ow
theorem own_full (w : World) (cs : Array Value) (xs : List Value) (n base : Nat) (e : TypeId) (hb : base ≤ w.heap.size) (hc : cs.toList = xs) (hn : xs.length = n) (hm : n ≤ maxLen) : (w.alloc (.cells cs e)).ownsRow base e 1 (.slice (some ⟨w.heap.size, 0, none⟩) n n) n xs := by
  have hs : cs.size = n := by rw [← hn, ← hc]; simp
  exact ⟨by omega, .inr ⟨w.heap.size, n, cs, rfl, hb, heap_alloc_new w _, Nat.le_refl _, hm, by omega, by rw [hc, Nat.mul_one, ← hn, List.take_length]⟩⟩
/-- a literal's row -/
theorem Rows2.made (W : World) (cs : Array Value) (n : Nat) (hc : cs.toList = cellsB l) (hn : n = l.length) (hm : n ≤ 4000000) : Rows2 W (W.alloc (.cells cs 5)) (.slice (some ⟨W.heap.size, 0, none⟩) n n) l := by
  subst hn
  exact ⟨(Below.refl _ _).alloc (Nat.le_refl _) _, own_full W cs (cellsB l) l.length W.heap.size _ (Nat.le_refl _) hc (cellsB_length l) (by unfold maxLen; omega)⟩
theorem Pend.made (h : Rows2 W V v l) (cs : Array Value) (n : Nat) (hc : cs.toList = cellsB s) (hn : n = s.length) (hm : n ≤ 4000000) : Pend W (V.alloc (.cells cs 5)) v (.slice (some ⟨V.heap.size, 0, none⟩) n n) s := by
  subst hn
  exact Pend.new h (own_full V cs (cellsB s) s.length V.heap.size _ (Nat.le_refl _) hc (cellsB_length s) (by unfold maxLen; omega)) rfl

theorem step_row {ops : Array Oper} {o : Oper} {a : Act} {K : Act → World → Prop} {Q : Exit → Act → World → Prop} {E : Prop} {A : Option Addr} {c m : Nat} (hgd : o.guard = none) (p q : Operand)
    (ho : o.op = .call { callee := .builtin .append, args := #[p, q], argTypes := #[22, 22] })
    (hR : Rows2 W V v l) (hP : Pend W V v (.slice A m c) s) (hm : m = s.length) (hv : a.eval p = v) (hx : a.eval q = .slice A m c) (hbd : l.length + s.length ≤ 4000000)
    (h : ∀ v' V', Rows2 W V' v' (l ++ s) → V.grownBy V' v.ownBlock → (v'.ownBlock = v.ownBlock ∨ v'.ownBlock = some V.heap.size) → K (a.put o.dst v') V') :
    if Region.wanted o (yielded ops a.tmps) = true then Oper.wp Tryz.prog o a V K Q else E := by
  subst hm
  obtain ⟨i0, hi, hz0, hz1, hz2⟩ := info_parts Tryz.infoB
  refine step_append_src (base := W.heap.size) hgd p q ho Tryz.underlying22 hi hz0 hz1 hz2 rfl (by decide) hv hR.ow hx (src_of_rdB (RdB.of_own hP.1) rfl) (cellsB_one _) (by unfold maxLen; omega) (by omega) hR.bl.size fun v' w' h1 h2 h3 => ?_
  exact h v' w' (hR.app rfl h1 h2) h2 h3
theorem wpList_row {ops : Array Oper} {rest : List Oper} {o : Oper} {a : Act} {Q : Exit → Act → World → Prop} {A : Option Addr} {c m : Nat} (hgd : o.guard = none) (p q : Operand)
    (ho : o.op = .call { callee := .builtin .append, args := #[p, q], argTypes := #[22, 22] })
    (hR : Rows2 W V v l) (hP : Pend W V v (.slice A m c) s) (hm : m = s.length) (hv : a.eval p = v) (hx : a.eval q = .slice A m c) (hbd : l.length + s.length ≤ 4000000)
    (h : ∀ v' V', Rows2 W V' v' (l ++ s) → V.grownBy V' v.ownBlock → (v'.ownBlock = v.ownBlock ∨ v'.ownBlock = some V.heap.size) → wpList Tryz.prog ops Q rest (a.put o.dst v') V') : wpList Tryz.prog ops Q (o :: rest) a V := by
  subst hm
  obtain ⟨i0, hi, hz0, hz1, hz2⟩ := info_parts Tryz.infoB
  refine wpList_append_src (base := W.heap.size) hgd p q ho Tryz.underlying22 hi hz0 hz1 hz2 rfl (by decide) hv hR.ow hx (src_of_rdB (RdB.of_own hP.1) rfl) (cellsB_one _) (by unfold maxLen; omega) (by omega) hR.bl.size fun v' w' h1 h2 h3 => ?_
  exact h v' w' (hR.app rfl h1 h2) h2 h3
end
end Go.Proofs.YtnagmopejblegaaGreat
/- Layer 4: the document's Bytes: a gap. -/
namespace Go.Proofs.YtnagmopejblegaaGreat
open Go.RowKit

theorem gap_bytes {x : It} (hg : x.g = true) : ([1, x.ga] ++ leb x.gf) ++ leb x.gt = itemB x := by unfold itemB gapB; rw [if_pos hg]; simp

set_option maxRecDepth 100000 in
set_option maxHeartbeats 2000000 in
theorem refBytes_gap (x : It) (A : Option Addr) (n c : Nat) (hx : OkI x) (hg : x.g = true) (w : World) :
    Calls Tryz.prog 14 #[.agg #[.bool x.g, .int .u8 x.o, .int .u64 x.q, .int .u64 x.t, .string x.r, .slice A n c, .int .u8 x.s, .int .u8 x.p, .int .i64 x.v, .int .u8 x.w, .int .u8 x.ga, .int .u64 x.gf, .int .u64 x.gt]] w fun e w' => ∃ v', e = .returned v' ∧ w'.ownsRow w.heap.size 5 1 v' (itemB x).length (cellsB (itemB x)) ∧ Below w.heap.size w w' := by
  have hf := hx.gf
  have ht := hx.gt
  have k1 := leb_le10 hf
  have k2 := leb_le10 ht
  obtain ⟨W, hW⟩ : ∃ W, W = w.alloc (.cells #[.bool x.g, .int .u8 x.o, .int .u64 x.q, .int .u64 x.t, .string x.r, .slice A n c, .int .u8 x.s, .int .u8 x.p, .int .i64 x.v, .int .u8 x.w, .int .u8 x.ga, .int .u64 x.gf, .int .u64 x.gt] 40) := ⟨_, rfl⟩
  have hb : Below w.heap.size w W := by rw [hW]; exact (Below.refl _ _).alloc (Nat.le_refl _) _
  have hc : W.heap[w.heap.size]? = some (.cells #[.bool x.g, .int .u8 x.o, .int .u64 x.q, .int .u64 x.t, .string x.r, .slice A n c, .int .u8 x.s, .int .u8 x.p, .int .i64 x.v, .int .u8 x.w, .int .u8 x.ga, .int .u64 x.gf, .int .u64 x.gt] 40 (0, 0)) := by rw [hW]; exact heap_alloc_new _ _
  have hl : w.heap.size < W.heap.size := by rw [hW]; simp
  have c0 : W.cell? ⟨w.heap.size, 0, none⟩ = some (.bool x.g) := cell_of_row _ _ 0 _ _ _ hc
  rw [hg] at c0
  have c10 : W.cell? ⟨w.heap.size, 10, none⟩ = some (.int .u8 x.ga) := cell_of_row _ _ 10 _ _ _ hc
  have HX := Lib.hid (show ∀ V, Below W.heap.size W V → V.heap[w.heap.size]? = some (.cells #[.bool x.g, .int .u8 x.o, .int .u64 x.q, .int .u64 x.t, .string x.r, .slice A n c, .int .u8 x.s, .int .u8 x.p, .int .i64 x.v, .int .u8 x.w, .int .u8 x.ga, .int .u64 x.gf, .int .u64 x.gt] 40 (0, 0)) from fun V hV => (hV.block _ hl).trans hc)
  have HW := Lib.hid hW
  have HB := Lib.hid hb
  have HG := Lib.hid hg
  have HF := Lib.hid hf
  have HT := Lib.hid ht
  have hu1 : ([1, x.ga] : List Nat).length + (leb x.gf).length ≤ 4000000 := by simp; omega
  have hu2 : ([1, x.ga] ++ leb x.gf).length + (leb x.gt).length ≤ 4000000 := by rw [List.length_append]; simp; omega
  have HU1 := Lib.hid hu1
  have HU2 := Lib.hid hu2
  clear hW hb hc hl hg hf ht hx k1 k2 hu1 hu2
  go_enter Tryz.func14, Tryz.ntmps14
  go_upto_region 1 with fail
  rw [← HW.out]
  go_upto_region 3 with fail
  have HR := Lib.hid (Rows2.made (l := [1, x.ga]) W #[.int .u8 1, .int .u8 x.ga] 2 rfl rfl (by decide))
  clear c0 c10 HW
  generalize hV : W.alloc (.cells #[.int .u8 1, .int .u8 x.ga] 5) = Vs at *
  clear hV
  go_cut [2] from 13 to 23 (fun p wx => Rows2 W wx p (itemB x))
  case first =>
    refine wp_region_noPanic ?_
    refine wp_region_held_drew (S := (fun V => Below W.heap.size W V)) (by kernel_rfl) ?_ (fun hHeld => ?_)
    · exact HR.out.bl.trans (((Below.refl Vs.heap.size Vs).drew).mono HR.out.bl.size)
    have HR0 := Lib.hid (HR.out.call ((Below.refl Vs.heap.size Vs).drew))
    generalize hV0 : Vs.drew = V0 at *
    clear hV0
    refine heldTake (i := 0) (v := ?_) rfl (by kernel_rfl) (by kernel_rfl) (by kernel_rfl) (fun _ _ _ h => h) (Or.inl ⟨by rfl, ?_⟩) (by assumption) ?_
    rotate_left
    · (intro w hSw; (try dsimp only at hSw); go_simp; try with_reducible rfl)
    try simp only [heldPut, List.set]
    refine heldTake (i := 1) (v := ?_) rfl (by kernel_rfl) (by kernel_rfl) (by kernel_rfl) (fun _ _ _ h => h) (Or.inl ⟨by rfl, ?_⟩) (by assumption) ?_
    rotate_left
    · (intro w hSw; (try dsimp only at hSw); go_simp; try with_reducible rfl)
    try simp only [heldPut, List.set]
    refine heldTake (i := 2) (v := ?_) rfl (by kernel_rfl) (by kernel_rfl) (by kernel_rfl) (fun _ _ _ h => h) (Or.inl ⟨by rfl, ?_⟩) (by assumption) ?_
    rotate_left
    · (intro w hSw; (try dsimp only at hSw); go_simp; try with_reducible rfl)
    try simp only [heldPut, List.set]
    refine heldTake (i := 3) (v := ?_) rfl (by kernel_rfl) (by kernel_rfl) (by kernel_rfl) (fun _ _ _ h => h) (Or.inl ⟨by rfl, ?_⟩) (by assumption) ?_
    rotate_left
    · (intro w hSw; (try dsimp only at hSw); have k11 := cell_of_row _ _ 11 _ _ _ (HX.out _ hSw); have k12 := cell_of_row _ _ 12 _ _ _ (HX.out _ hSw); clear hSw; simp at k11 k12; go_simp; try with_reducible rfl)
    try simp only [heldPut, List.set]
    refine heldTake (i := 6) (v := ?_) rfl (by kernel_rfl) (by kernel_rfl) (by kernel_rfl) (fun _ _ _ h => h) (Or.inl ⟨by rfl, ?_⟩) (by assumption) ?_
    rotate_left
    · (intro w hSw; (try dsimp only at hSw); go_simp; try with_reducible rfl)
    try simp only [heldPut, List.set]
    refine heldTake (i := 7) (v := ?_) rfl (by kernel_rfl) (by kernel_rfl) (by kernel_rfl) (fun _ _ _ h => h) (Or.inl ⟨by rfl, ?_⟩) (by assumption) ?_
    rotate_left
    · (intro w hSw; (try dsimp only at hSw); go_simp; try with_reducible rfl)
    try simp only [heldPut, List.set]
    refine heldTake (i := 8) (v := ?_) rfl (by kernel_rfl) (by kernel_rfl) (by kernel_rfl) (fun _ _ _ h => h) (Or.inl ⟨by rfl, ?_⟩) (by assumption) ?_
    rotate_left
    · (intro w hSw; (try dsimp only at hSw); have k11 := cell_of_row _ _ 11 _ _ _ (HX.out _ hSw); have k12 := cell_of_row _ _ 12 _ _ _ (HX.out _ hSw); clear hSw; simp at k11 k12; go_simp; try with_reducible rfl)
    try simp only [heldPut, List.set]
    refine heldOne (i := 4) rfl (by kernel_rfl) (fun K hK => ?_)
    go_simp
    refine (refUint_any x.gf HF.out V0).mono ?_
    rintro e V1 ⟨u1, rfl, ho, hb⟩
    obtain ⟨A1, c1, rfl⟩ := ownB_slice ho
    have HR1 := Lib.hid (HR0.out.call hb)
    have HP4_1 := Lib.hid (Pend.new HR0.out ho (rfl))
    clear ho hb HR0
    go_wp2_with fail
    refine hK.out _ _ ?_ (fun hHeld1 => ?_)
    · exact HR1.out.bl
    clear hK K hHeld
    try simp only [heldPut, List.set]
    refine heldOne (i := 5) rfl (by kernel_rfl) (fun K hK => ?_)
    refine step_row rfl _ _ rfl HR1.out HP4_1.out (rfl) rfl rfl (HU1.out) ?_
    intro v2 V2 hr hg hb
    have HR2 := Lib.hid hr
    clear hr hg hb HR1 HP4_1
    refine hK.out _ _ ?_ (fun hHeld2 => ?_)
    · exact HR2.out.bl
    clear hK K hHeld1
    try simp only [heldPut, List.set]
    refine heldOne (i := 9) rfl (by kernel_rfl) (fun K hK => ?_)
    go_simp
    refine (refUint_any x.gt HT.out V2).mono ?_
    rintro e V3 ⟨u3, rfl, ho, hb⟩
    obtain ⟨A3, c3, rfl⟩ := ownB_slice ho
    have HR3 := Lib.hid (HR2.out.call hb)
    have HP9_3 := Lib.hid (Pend.new HR2.out ho (rfl))
    clear ho hb HR2
    go_wp2_with fail
    refine hK.out _ _ ?_ (fun hHeld3 => ?_)
    · exact HR3.out.bl
    clear hK K hHeld2
    try simp only [heldPut, List.set]
    refine heldOne (i := 10) rfl (by kernel_rfl) (fun K hK => ?_)
    refine step_row rfl _ _ rfl HR3.out HP9_3.out (rfl) rfl rfl (HU2.out) ?_
    intro v4 V4 hr hg hb
    have HR4 := Lib.hid hr
    clear hr hg hb HR3 HP9_3
    refine hK.out _ _ ?_ (fun hHeld4 => ?_)
    · exact HR4.out.bl
    clear hK K hHeld3
    try simp only [heldPut, List.set]
    refine heldTake (i := 11) (v := ?_) rfl (by kernel_rfl) (by kernel_rfl) (by kernel_rfl) (fun _ _ _ h => h) (Or.inl ⟨by rfl, ?_⟩) (by assumption) ?_
    rotate_left
    · (intro w hSw; (try dsimp only at hSw); go_simp; try with_reducible rfl)
    try simp only [heldPut, List.set]
    refine wpAnyH_done (by kernel_rfl) ?_ _
    refine NoPanic.normal ?_
    go_wp2_with fail
    go_meet
    rw [← gap_bytes HG.out]
    exact HR4.out
  case rest =>
    have HR9 := Lib.hid hcut
    clear hcut
    go_wp2
    go_ret
    exact ⟨_, rfl, ownB_mono HR9.out.ow HB.out.size, HB.out.trans (HR9.out.bl.mono HB.out.size)⟩
end Go.Proofs.YtnagmopejblegaaGreat
