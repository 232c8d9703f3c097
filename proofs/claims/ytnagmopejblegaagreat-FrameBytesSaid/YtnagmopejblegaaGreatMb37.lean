/- Several texts in one: ItTkL, ItTkE. -/
import Derived.Test.YtnagmopejblegaaGreatMb27
import Derived.Test.YtnagmopejblegaaGreatMb36
/- Layer 4: item.takeLabels. -/
namespace Go.Proofs.YtnagmopejblegaaGreat
open Go.RowKit

theorem rL_len (mk mv : Nat) : ∀ (n : Nat) (s : St), (rL mk mv n s).1.length = n
  | 0, _ => rfl
  | n + 1, s => by
    show ((rL mk mv n (rT mv (rT mk s).2).2).1).length + 1 = n + 1
    rw [rL_len mk mv n]
theorem rL_succ {mk mv n : Nat} {s s1 s2 : St} {a b : ByteArray} (h1 : rT mk s = (a, s1)) (h2 : rT mv s1 = (b, s2)) : rL mk mv (n + 1) s = ((a, b) :: (rL mk mv n s2).1, (rL mk mv n s2).2) := by
  simp [rL, bnd, h1, h2, ret]
/-- the labels that were taken lie in new memory -/
def LabsRet (l : List Pr) (s : St) (g : Nat) (w : World) (e : Ending) (w' : World) : Prop :=
  ∃ A n c, e = .returned (.slice A n c) ∧ n = l.length ∧ w'.ownsRow w.heap.size 98 2 (.slice A n c) n (cellsP l) ∧ RdT w' g s ∧ w.grownBy w' (some g)
/-- the worlds of a round: both texts are read, the pair is laid -/
theorem labs_round {w wr w1 w2 : World} {g k : Nat} {a b : ByteArray} {s2 : St} {v : Value} {d : List Pr} {e : TypeId}
    (hg : w.grownBy wr (some g)) (h1 : wr.grownBy w1 (some g)) (h2 : w1.grownBy w2 (some g)) (hv : wr.ownsRow w.heap.size e 2 v k (cellsP d)) (hgl : g < w.heap.size) (hr : RdT w2 g s2) :
    (w2.alloc (.cells #[.string a, .string b] e)).ownsRow w.heap.size e 2 v k (cellsP d) ∧ RdT (w2.alloc (.cells #[.string a, .string b] e)) g s2 ∧ w.grownBy (w2.alloc (.cells #[.string a, .string b] e)) (some g) := by
  have hne : v.ownBlock = none ∨ v.ownBlock ≠ some g := by
    cases hv0 : v.ownBlock with
    | none => exact .inl rfl
    | some k => exact .inr (fun e => by have := (hv.lt k hv0).1; cases e; omega)
  have hb : Below w2.heap.size w2 (w2.alloc (.cells #[.string a, .string b] e)) := (Below.refl _ _).alloc (Nat.le_refl _) _
  exact ⟨own_below ((hv.kept h1 hne).kept h2 hne) hb, hr.below hb, grown_alloc (grownBy_trans (grownBy_trans hg h1) h2) _⟩

set_option maxRecDepth 100000 in
set_option maxHeartbeats 1000000 in
theorem takeLabels_any (g : Nat) (s : St) (w : World) (h : RdT w g s) :
    Calls Tryz.prog 77 #[.pointer (some ⟨g, 0, none⟩)] w (LabsRet (rLabs 8 8 16 s).1 (rLabs 8 8 16 s).2 g w) := by
  obtain ⟨n, s1, h1⟩ : ∃ n s1, rC 8 s = (n, s1) := ⟨_, _, rfl⟩
  have hn : n ≤ 8 := by have := rC_le 8 s; rw [h1] at this; exact this
  have hL : rLabs 8 8 16 s = rL 8 16 n s1 := by simp [rLabs, bnd, h1]
  rw [hL]
  obtain ⟨i0, hi, hz0, hz1, hz2⟩ := info_parts Tryz.infoP
  have t1 := tk_count8 g s w h
  rw [h1] at t1
  have HT1 := Lib.hid t1
  have hgl := h.lt
  clear t1 h1 hL h
  go_enter Tryz.func77, Tryz.ntmps77
  go_wp2_with fail
  refine HT1.out.mono ?_
  rintro e w1 ⟨rfl, hr1, hg1⟩
  have HR1 := Lib.hid hr1
  have HG1 := Lib.hid hg1
  have HO1 := Lib.hid (World.ownsRow_nil w1 w.heap.size 98 2)
  clear hr1 hg1 HT1
  go_wp2_with fail
  go_loopw [3, 6] (fun x3 x6 wr => ∃ (k j : Nat) (v : Value) (d : List Pr) (sk : St), k + j = n ∧ x3 = v ∧ x6 = .int .u64 k ∧ Hid (d.length = k) ∧ Hid (rL 8 16 n s1 = (d ++ (rL 8 16 j sk).1, (rL 8 16 j sk).2)) ∧ Hid (wr.ownsRow w.heap.size 98 2 v k (cellsP d)) ∧ Hid (RdT wr g sk) ∧ Hid (w.grownBy wr (some g))) (fun _ x6 _ => 9 - (intOf x6).toNat)
  case atStart => exact ⟨0, n, _, [], s1, by omega, rfl, rfl, rfl, rfl, HO1.out, HR1.out, HG1.out⟩
  case round =>
    obtain ⟨k, j, v, d, sk, hkj, rfl, rfl, HD, HL, HV, HR, HG⟩ := hrel
    clear HR1 HG1 HO1
    by_cases hlt : k < n
    · have hb1 : decide ((k : Int) < (n : Int)) = true := decide_eq_true (by omega)
      have hb2 : decide (k < n) = true := decide_eq_true hlt
      obtain ⟨j, rfl⟩ : ∃ q, j = q + 1 := ⟨j - 1, by omega⟩
      obtain ⟨a, s2, h2⟩ : ∃ a s2, rT 8 sk = (a, s2) := ⟨_, _, rfl⟩
      obtain ⟨b, s3, h3⟩ : ∃ q q2, rT 16 s2 = (q, q2) := ⟨_, _, rfl⟩
      have HL2 := Lib.hid (HL.out.trans (by rw [rL_succ h2 h3]))
      have t2 := tk_text8 g sk wr HR.out
      have t3 := fun W H => tk_text16 g s2 W H
      rw [h2] at t2
      rw [h3] at t3
      have HT2 := Lib.hid t2
      have HT3 := Lib.hid t3
      clear t2 t3 h2 h3 HR HL
      go_wp2_with fail
      refine HT2.out.mono ?_
      rintro e w2 ⟨rfl, hr2, hg2⟩
      have HR2 := Lib.hid hr2
      have HG2 := Lib.hid hg2
      clear hr2 hg2 HT2
      go_wp2_with fail
      refine (HT3.out w2 HR2.out).mono ?_
      rintro e w3 ⟨rfl, hr3, hg3⟩
      have HX := Lib.hid (labs_round (a := a) (b := b) HG.out HG2.out hg3 HV.out hgl hr3)
      have HSrc := Lib.hid (src_pair (p := (a, b)) (heap_alloc_new w3 (.cells #[.string a, .string b] 98)))
      have hws := hg3.size
      have hws2 := HG2.out.size
      have hws3 := HG.out.size
      clear hr3 hg3 HT3 HV HR2 HG2 HG
      go_wp2_with (at_builtin; refine wpList_append_src (base := w.heap.size) rfl _ _ rfl Tryz.underlying33 hi hz0 hz1 hz2 rfl (by decide) rfl HX.out.1 rfl HSrc.out (cellsP_one _) (by unfold maxLen; omega) (by omega) (by simp; omega) ?_; intro v2 w4 hr4 hg4 hb4; obtain ⟨A4, c4', rfl⟩ := own_slice hr4; have HG4 := Lib.hid (grown_fresh HX.out.2.2 hg4 (fun q hq => (HX.out.1.lt q hq).1)); have HR4 := Lib.hid (HX.out.2.1.kept hg4 (fun q hq => Nat.lt_of_lt_of_le hgl (HX.out.1.lt q hq).1)); replace hr4 := Lib.hid hr4; clear hg4 hb4)
      refine ⟨⟨k + 1, j, .slice A4 (k + 1) c4', d ++ [(a, b)], s3, by omega, rfl, by go_num, ?_, ?_, ?_, HR4.out, HG4.out⟩, by simp [intOf]; omega⟩
      · show (d ++ [(a, b)]).length = _
        rw [List.length_append, HD.out]; rfl
      · rw [List.append_assoc]; exact HL2.out
      · show World.ownsRow _ _ _ _ _ _ _
        rw [cellsP_append]; exact hr4.out
    · have hb1 : decide ((k : Int) < (n : Int)) = false := decide_eq_false (by omega)
      have hb2 : decide (k < n) = false := decide_eq_false hlt
      obtain rfl : j = 0 := by omega
      obtain rfl : k = n := by omega
      obtain ⟨A, c, rfl⟩ := own_slice HV.out
      clear hlt hkj
      go_wp2_with fail
      go_ret
      refine ⟨A, k, c, rfl, ?_, ?_, ?_, HG.out⟩
      · rw [HL.out]; show _ = (d ++ []).length; rw [List.append_nil, HD.out]
      · rw [HL.out]; show World.ownsRow _ _ _ _ _ _ (cellsP (d ++ [])); rw [List.append_nil]; exact HV.out
      · rw [HL.out]; exact HR.out
end Go.Proofs.YtnagmopejblegaaGreat
/- Layer 4: item.takeEvent. -/
namespace Go.Proofs.YtnagmopejblegaaGreat
open Go.RowKit

theorem Tryz.infoEv : (Tryz.prog.info? 36).map (·.size) = some 9 := by kernel_rfl
/-- an event that was taken: its labels lie in new memory -/
def EvRet (x : It) (s : St) (g : Nat) (w : World) (e : Ending) (w' : World) : Prop :=
  ∃ A n c, e = .returned (.agg #[.int .u8 x.o, .int .u64 x.q, .int .u64 x.t, .string x.r, .slice A n c, .int .u8 x.s, .int .u8 x.p, .int .i64 x.v, .int .u8 x.w]) ∧ n = x.l.length ∧ w'.ownsRow w.heap.size 98 2 (.slice A n c) n (cellsP x.l) ∧ RdT w' g s ∧ w.grownBy w' (some g)
theorem own_far {w w' : World} {base g size n : Nat} {e : TypeId} {v : Value} {xs : List Value} (h : w.ownsRow base e size v n xs) (hg : w.grownBy w' (some g)) (hgl : g < base) : w'.ownsRow base e size v n xs := by
  refine h.kept hg ?_
  cases hv : v.ownBlock with
  | none => exact .inl rfl
  | some k => exact .inr (fun e => by have := (h.lt k hv).1; cases e; omega)

set_option maxRecDepth 100000 in
set_option maxHeartbeats 2000000 in
theorem takeEvent_any (g : Nat) (s : St) (w : World) (h : RdT w g s) :
    Calls Tryz.prog 64 #[.pointer (some ⟨g, 0, none⟩)] w (EvRet (evR 12 8 8 16 s).1 (evR 12 8 8 16 s).2 g w) := by
  obtain ⟨o, s1, h1⟩ : ∃ z z2, rByte s = (z, z2) := ⟨_, _, rfl⟩
  obtain ⟨q, s2, h2⟩ : ∃ z z2, rU s1 = (z, z2) := ⟨_, _, rfl⟩
  obtain ⟨t, s3, h3⟩ : ∃ z z2, rU s2 = (z, z2) := ⟨_, _, rfl⟩
  obtain ⟨r, s4, h4⟩ : ∃ z z2, rT 12 s3 = (z, z2) := ⟨_, _, rfl⟩
  obtain ⟨l, s5, h5⟩ : ∃ z z2, rLabs 8 8 16 s4 = (z, z2) := ⟨_, _, rfl⟩
  obtain ⟨st, s6, h6⟩ : ∃ z z2, rByte s5 = (z, z2) := ⟨_, _, rfl⟩
  obtain ⟨p, s7, h7⟩ : ∃ z z2, rByte s6 = (z, z2) := ⟨_, _, rfl⟩
  obtain ⟨v, s8, h8⟩ : ∃ z z2, rI s7 = (z, z2) := ⟨_, _, rfl⟩
  obtain ⟨ow, s9, h9⟩ : ∃ z z2, rByte s8 = (z, z2) := ⟨_, _, rfl⟩
  have hE : evR 12 8 8 16 s = (⟨false, o, q, t, r, l, st, p, v, ow, 0, 0, 0⟩, s9) := by simp [evR, bnd, h1, h2, h3, h4, h5, h6, h7, h8, h9, ret]
  rw [hE]
  have t1 := fun W H => tk_byte g s W H
  rw [h1] at t1
  have HT1 := Lib.hid t1
  have t2 := fun W H => tk_uint g s1 W H
  rw [h2] at t2
  have HT2 := Lib.hid t2
  have t3 := fun W H => tk_uint g s2 W H
  rw [h3] at t3
  have HT3 := Lib.hid t3
  have t4 := fun W H => tk_text12 g s3 W H
  rw [h4] at t4
  have HT4 := Lib.hid t4
  have t5 := fun W H => takeLabels_any g s4 W H
  rw [h5] at t5
  have HT5 := Lib.hid t5
  have t6 := fun W H => tk_byte g s5 W H
  rw [h6] at t6
  have HT6 := Lib.hid t6
  have t7 := fun W H => tk_byte g s6 W H
  rw [h7] at t7
  have HT7 := Lib.hid t7
  have t8 := fun W H => tk_int g s7 W H
  rw [h8] at t8
  have HT8 := Lib.hid t8
  have t9 := fun W H => tk_byte g s8 W H
  rw [h9] at t9
  have HT9 := Lib.hid t9
  obtain ⟨W, hW⟩ : ∃ W, W = w.alloc (.cells #[.int .u8 0, .int .u64 0, .int .u64 0, .string ⟨#[]⟩, .slice none 0 0, .int .u8 0, .int .u8 0, .int .i64 0, .int .u8 0] 36) := ⟨_, rfl⟩
  have hb : Below w.heap.size w W := by rw [hW]; exact (Below.refl _ _).alloc (Nat.le_refl _) _
  have hc : W.heap[w.heap.size]? = some (.cells #[.int .u8 0, .int .u64 0, .int .u64 0, .string ⟨#[]⟩, .slice none 0 0, .int .u8 0, .int .u8 0, .int .i64 0, .int .u8 0] 36 (0, 0)) := by rw [hW]; exact heap_alloc_new _ _
  have hl : w.heap.size < W.heap.size := by rw [hW]; simp
  have hgl := h.lt
  have HW := Lib.hid hW
  have HC := Lib.hid hc
  have HG0 := Lib.hid (grown_below0 hb (some g))
  have HR0 := Lib.hid (h.below hb)
  have HL := Lib.hid hl
  clear hW hb hc h hE hl h1 h2 h3 h4 h5 h6 h7 h8 h9 t1 t2 t3 t4 t5 t6 t7 t8 t9
  go_enter Tryz.func64, Tryz.ntmps64
  go_upto_region 1 with fail
  rw [← HW.out]
  obtain ⟨w0, hw0⟩ : ∃ V, W = V := ⟨_, rfl⟩
  rw [hw0] at HC HG0 HR0 HL HW ⊢
  clear hw0
  have HE0 := Lib.hid (World.grownBy.refl w0 (some g))
  go_wp2_with fail
  refine (HT1.out w0 HR0.out).mono ?_
  rintro e w1 ⟨rfl, hr, hg⟩
  have HR1 := Lib.hid hr
  have HE1 := Lib.hid (grownBy_trans HE0.out hg)
  clear hr hg HE0 HR0 HT1
  go_wp2_with fail
  refine (HT2.out w1 HR1.out).mono ?_
  rintro e w2 ⟨rfl, hr, hg⟩
  have HR2 := Lib.hid hr
  have HE2 := Lib.hid (grownBy_trans HE1.out hg)
  clear hr hg HE1 HR1 HT2
  go_wp2_with fail
  refine (HT3.out w2 HR2.out).mono ?_
  rintro e w3 ⟨rfl, hr, hg⟩
  have HR3 := Lib.hid hr
  have HE3 := Lib.hid (grownBy_trans HE2.out hg)
  clear hr hg HE2 HR2 HT3
  go_wp2_with fail
  refine (HT4.out w3 HR3.out).mono ?_
  rintro e w4 ⟨rfl, hr, hg⟩
  have HR4 := Lib.hid hr
  have HE4 := Lib.hid (grownBy_trans HE3.out hg)
  clear hr hg HE3 HR3 HT4
  go_wp2_with fail
  refine (HT5.out w4 HR4.out).mono ?_
  rintro e w5 ⟨A, n, c, rfl, hn, ho, hr, hg⟩
  have HN := Lib.hid hn
  have HO5 := Lib.hid ho
  have hsb : Hid (g < w4.heap.size ∧ w.heap.size < w4.heap.size) := ⟨HR4.out.lt, Nat.lt_of_lt_of_le HL.out HE4.out.size⟩
  have HR5 := Lib.hid hr
  have HE5 := Lib.hid (grownBy_trans HE4.out hg)
  clear hr hg hn ho HE4 HR4 HT5
  go_wp2_with fail
  refine (HT6.out w5 HR5.out).mono ?_
  rintro e w6 ⟨rfl, hr, hg⟩
  have HR6 := Lib.hid hr
  have HE6 := Lib.hid (grownBy_trans HE5.out hg)
  have HO6 := Lib.hid (own_far HO5.out hg hsb.out.1)
  clear hr hg HE5 HR5 HT6 HO5
  go_wp2_with fail
  refine (HT7.out w6 HR6.out).mono ?_
  rintro e w7 ⟨rfl, hr, hg⟩
  have HR7 := Lib.hid hr
  have HE7 := Lib.hid (grownBy_trans HE6.out hg)
  have HO7 := Lib.hid (own_far HO6.out hg hsb.out.1)
  clear hr hg HE6 HR6 HT7 HO6
  go_wp2_with fail
  refine (HT8.out w7 HR7.out).mono ?_
  rintro e w8 ⟨rfl, hr, hg⟩
  have HR8 := Lib.hid hr
  have HE8 := Lib.hid (grownBy_trans HE7.out hg)
  have HO8 := Lib.hid (own_far HO7.out hg hsb.out.1)
  clear hr hg HE7 HR7 HT8 HO7
  go_wp2_with fail
  refine (HT9.out w8 HR8.out).mono ?_
  rintro e w9 ⟨rfl, hr, hg⟩
  have HR9 := Lib.hid hr
  have HE9 := Lib.hid (grownBy_trans HE8.out hg)
  have HO9 := Lib.hid (own_far HO8.out hg hsb.out.1)
  clear hr hg HE8 HR8 HT9 HO8
  have HC9 := Lib.hid ((HE9.out.block w.heap.size HL.out (by simp; omega)).trans HC.out)
  go_wp2_with (first | (refine wpList_store_row rfl _ _ _ rfl w.heap.size _ rfl rfl _ _ HC9.out Tryz.infoEv rfl (by simp [Value.oneCell']) ?_) | fail)
  refine bodyPost_ret (v := .agg #[.int .u8 (o : Nat), .int .u64 (q : Nat), .int .u64 (t : Nat), .string r, .slice A n c, .int .u8 (st : Nat), .int .u8 (p : Nat), .int .i64 v, .int .u8 (ow : Nat)]) ?_ rfl ⟨A, n, c, rfl, HN.out, ?_, ?_, ?_⟩
  · exact results_cell_row rfl _ _ w.heap.size _ _ _ _ rfl (setRow_heap _ _ _ _ _ _ HC9.out) Tryz.underlying36 rfl (by kernel_rfl)
  · exact ownB_mono (own_setRow HO9.out hsb.out.2 _) (Nat.le_of_lt hsb.out.2)
  · exact HR9.out.setRow hgl _
  · exact grown_setRow (grownBy_trans HG0.out HE9.out) (Nat.le_refl _) _
end Go.Proofs.YtnagmopejblegaaGreat
