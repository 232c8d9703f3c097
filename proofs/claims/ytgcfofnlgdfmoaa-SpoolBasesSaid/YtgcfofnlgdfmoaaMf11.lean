/- Several texts in one: ItPutEv. -/
import Derived.Test.YtgcfofnlgdfmoaaMf8
/- Layer 4: item.Put of an event. -/
namespace Go.Proofs.Ytgcfofnlgdfmoaa
open Go.RowKit

set_option maxRecDepth 100000 in
set_option maxHeartbeats 3000000 in
theorem putEvent_any (g : Nat) (v0 : Value) (l : List Nat) (x : It) (A : Option Addr) (n c : Nat) (hx : OkI x) (hs : ShortI x) (hn : n = x.l.length) (hm : n ≤ 1048576) (w : World) (h : Wtr w g v0 l) (hl : l.length + (evB x).length ≤ 2000000) (hr : LabAt w g v0.ownBlock A x.l) :
    Calls Try.prog 121 #[.pointer (some ⟨g, 0, none⟩), .agg #[.int .u8 x.o, .int .u64 x.q, .int .u64 x.t, .string x.r, .slice A n c, .int .u8 x.s, .int .u8 x.p, .int .i64 x.v, .int .u8 x.w]] w fun e w' => e = .returned (.tuple #[]) ∧ Puts w w' g v0 (l ++ evB x) := by
  have hba : Below w.heap.size w (w.alloc (.cells #[.int .u8 x.o, .int .u64 x.q, .int .u64 x.t, .string x.r, .slice A n c, .int .u8 x.s, .int .u8 x.p, .int .i64 x.v, .int .u8 x.w] 56)) := (Below.refl _ _).alloc (Nat.le_refl _) _
  have l1 := leb_le10 hx.q
  have l2 := leb_le10 hx.t
  have l3 := leb_le10 (n := x.r.size) (by have := hs.r; omega)
  have l4 := leb_le10 (n := x.l.length) (by omega)
  have l5 := leb_le10 (zig_lt hx.v0 hx.v1)
  have q1 := hx.q
  have q2 := hx.t
  have q3 := hx.v0
  have q4 := hx.v1
  have q5 := hs.r
  have hbig : (evB x).length = 1 + (leb x.q).length + (leb x.t).length + ((leb x.r.size).length + x.r.size) + (leb x.l.length).length + (labsB x.l).length + (1 + 1 + (leb (zig x.v)).length + 1) := by
    unfold evB headB tailB
    simp only [List.length_append, List.length_cons, List.length_nil, textB_length]
  have hbound : l.length + (leb x.q).length + (leb x.t).length + (leb x.r.size).length + x.r.size + (leb x.l.length).length + (labsB x.l).length + (leb (zig x.v)).length ≤ 1999996 := by omega
  clear hbig hl
  have hgl := h.lt
  have H0 := Lib.hid (h.below hba)
  have Rw := Lib.hid (Wrote.of_below hba g v0.ownBlock)
  have hbg : w.heap.size ≠ g := by omega
  have hbr : Hid (some w.heap.size ≠ v0.ownBlock) := fun e => by have := h.row_lt e.symm; omega
  have HE := Lib.hid (EvAt.new w x A n c 56)
  have HL := Lib.hid (hr.below hba)
  have Hs := Lib.hid hs.l
  have Hn := Lib.hid hn
  have hq : (w.alloc (.cells #[.int .u8 x.o, .int .u64 x.q, .int .u64 x.t, .string x.r, .slice A n c, .int .u8 x.s, .int .u8 x.p, .int .i64 x.v, .int .u8 x.w] 56)).heap.size = w.heap.size + 1 := by simp
  clear h hba hx hs hr hn
  go_enter Try.func121, Try.ntmps121
  go_wp2_with fail
  refine (wbyte_any g v0 l x.o _ H0.out (by omega)).mono ?_
  rintro e w1 ⟨rfl, v1, h1, r1⟩
  have H1 := Lib.hid h1
  have R1 := Lib.hid r1
  clear h1 r1
  obtain ⟨_, c0, c1, c2, c3, c4, c5, c6, c7, c8⟩ := HE.out.wrote R1.out hbg hbr.out
  go_wp2_with fail
  refine (wuint_any g v1 _ x.q q1 _ H1.out (by simp only [List.length_append, List.length_cons, List.length_nil]; omega)).mono ?_
  rintro e w2 ⟨rfl, v2, h1, r1⟩
  have H2 := Lib.hid h1
  have R2 := Lib.hid (R1.out.trans r1)
  clear h1 r1
  clear c0 c1 c2 c3 c4 c5 c6 c7 c8
  have E2 := HE.out.wrote R2.out hbg hbr.out
  obtain ⟨_, c0, c1, c2, c3, c4, c5, c6, c7, c8⟩ := E2
  go_wp2_with fail
  refine (wuint_any g v2 _ x.t q2 _ H2.out (by simp only [List.length_append, List.length_cons, List.length_nil]; omega)).mono ?_
  rintro e w3 ⟨rfl, v3, h1, r1⟩
  have H3 := Lib.hid h1
  have R3 := Lib.hid (R2.out.trans r1)
  clear h1 r1
  clear c0 c1 c2 c3 c4 c5 c6 c7 c8
  have E3 := HE.out.wrote R3.out hbg hbr.out
  obtain ⟨_, c0, c1, c2, c3, c4, c5, c6, c7, c8⟩ := E3
  go_wp2_with fail
  refine (wtext_any g v3 _ x.r q5 _ H3.out (by simp only [List.length_append, List.length_cons, List.length_nil]; omega)).mono ?_
  rintro e w4 ⟨rfl, v4, h1, r1⟩
  have H4 := Lib.hid h1
  have R4 := Lib.hid (R3.out.trans r1)
  clear h1 r1
  clear c0 c1 c2 c3 c4 c5 c6 c7 c8
  have E4 := HE.out.wrote R4.out hbg hbr.out
  obtain ⟨_, c0, c1, c2, c3, c4, c5, c6, c7, c8⟩ := E4
  go_wp2_with fail
  refine (wuint_at g v4 _ x.l.length (by have := Hn.out; omega) (by have := Hn.out; omega) _ H4.out (by simp only [List.length_append, List.length_cons, List.length_nil, bytesN_length]; omega)).mono ?_
  rintro e w5 ⟨rfl, v5, h1, r1⟩
  have H5 := Lib.hid h1
  have R5 := Lib.hid (R4.out.trans r1)
  clear h1 r1
  clear c0 c1 c2 c3 c4 c5 c6 c7 c8
  have E5 := HE.out.wrote R5.out hbg hbr.out
  obtain ⟨_, c0, c1, c2, c3, c4, c5, c6, c7, c8⟩ := E5
  have Hh : Hid (Wtr w5 g v5 (l ++ headB x)) := by
    have h1 := H5.out
    simp only [headB, textB, List.append_assoc] at h1 ⊢
    exact h1
  have hhl : (l ++ headB x).length + (labsB x.l).length + (leb (zig x.v)).length ≤ 1999998 := by
    unfold headB
    simp only [List.length_append, List.length_cons, List.length_nil, textB_length]
    omega
  clear H1 H2 H3 H4 H5 R1 R2 R3 R4 l1 l2 l3 l4 hbound
  obtain ⟨P, hP⟩ : ∃ P, l ++ headB x = P := ⟨_, rfl⟩
  rw [hP] at Hh hhl
  have HP := Lib.hid hP
  clear hP
  go_wp2
  go_loopw [31] (fun iv wr => ∃ (k : Nat) (vk : Value), k ≤ n ∧ iv = .int .i64 k ∧ Hid (Wtr wr g vk (P ++ labsB (x.l.take k))) ∧ Hid (Wrote (w.alloc (.cells #[.int .u8 x.o, .int .u64 x.q, .int .u64 x.t, .string x.r, .slice A n c, .int .u8 x.s, .int .u8 x.p, .int .i64 x.v, .int .u8 x.w] 56)) wr g v0.ownBlock vk.ownBlock)) (fun iv _ => n - (intOf iv).toNat)
  case atStart => exact ⟨0, v5, Nat.zero_le _, rfl, by show Wtr _ _ _ _; rw [List.take_zero, labsB, List.append_nil]; exact Hh.out, R5.out⟩
  case round =>
    obtain ⟨k, vk, hk, rfl, HK, RK⟩ := hrel
    clear c0 c1 c2 c3 c4 c5 c6 c7 c8 Hh R5
    by_cases hlt : k < n
    · obtain ⟨b, o, p, rfl, hb, hp, d0, d1⟩ := (HL.out.wrote RK.out).at_ (k := k) (by have := Hn.out; omega)
      obtain ⟨s1, s2⟩ := Hs.out k p hp
      have hle := labsB_mem hp
      rw [textB_length, textB_length] at hle
      have hPl : (P ++ labsB (x.l.take k)).length = P.length + (labsB (x.l.take k)).length := List.length_append
      have lp1 := leb_le10 (n := p.1.size) (by omega)
      have hsz : g < wr.heap.size := HK.out.lt
      have hba2 : Below wr.heap.size wr (wr.alloc (.cells #[.string p.1, .string p.2] 151)) := (Below.refl _ _).alloc (Nat.le_refl _) _
      have K0 := Lib.hid (HK.out.below hba2)
      have RK1 := Lib.hid (RK.out.trans (Wrote.of_below hba2 g vk.ownBlock))
      have e0 : (wr.alloc (.cells #[.string p.1, .string p.2] 151)).cell? ⟨wr.heap.size, 0, none⟩ = some (.string p.1) := by rw [World.cell?_alloc_at _ _ _ _ rfl]; rfl
      have e1 : (wr.alloc (.cells #[.string p.1, .string p.2] 151)).cell? ⟨wr.heap.size, 1, none⟩ = some (.string p.2) := by rw [World.cell?_alloc_at _ _ _ _ rfl]; rfl
      have hne : Hid (some wr.heap.size ≠ vk.ownBlock) := fun e => by have := HK.out.row_lt e.symm; omega
      have Hp := Lib.hid hp
      clear hp hba2 HK RK
      have HPl := Lib.hid hPl
      have hPL : (P ++ labsB (x.l.take k)).length ≤ 1999998 - (leb p.1.size).length - p.1.size - (leb p.2.size).length - p.2.size := by rw [hPl]; omega
      clear hPl
      go_wp2_with fail
      refine (wtext_any g vk _ p.1 s1 _ K0.out (by omega)).mono ?_
      rintro e w7 ⟨rfl, v7, h1, r1⟩
      have e1' := (r1.cell (p := ⟨wr.heap.size, 1, none⟩) (by simp) (by simp; omega) hne.out).trans e1
      have K1 := Lib.hid h1
      have RK2 := Lib.hid (RK1.out.trans r1)
      clear h1 r1 e0 e1
      go_wp2_with fail
      refine (wtext_any g v7 _ p.2 s2 _ K1.out (by simp only [List.length_append, bytesN_length] at hPL ⊢; omega)).mono ?_
      rintro e w8 ⟨rfl, v8, h1, r1⟩
      have K2 := Lib.hid h1
      have RK3 := Lib.hid (RK2.out.trans r1)
      clear h1 r1 e1'
      go_wp2
      refine ⟨⟨k + 1, v8, by omega, by go_num, ?_, RK3.out⟩, by simp [intOf]; omega⟩
      have h1 := K2.out
      show Wtr _ _ _ _
      rw [labsB_take Hp.out]
      simp only [textB, List.append_assoc] at h1 ⊢
      exact h1
    · have hkn : x.l.take k = x.l := List.take_of_length_le (by have := Hn.out; omega)
      rw [hkn] at HK
      clear hkn
      obtain ⟨w9, rfl⟩ : ∃ w9 : World, w9 = wr := ⟨_, rfl⟩
      obtain ⟨v9, rfl⟩ : ∃ v9 : Value, v9 = vk := ⟨_, rfl⟩
      have H9 := HK
      have R9 := RK
      clear HK RK
      obtain ⟨_, c0, c1, c2, c3, c4, c5, c6, c7, c8⟩ := HE.out.wrote R9.out hbg hbr.out
      go_wp2_with fail
      refine (wbyte_any g v9 _ x.s _ H9.out (by simp only [List.length_append] at hhl ⊢; omega)).mono ?_
      rintro e w10 ⟨rfl, v10, h1, r1⟩
      have H10 := Lib.hid h1
      have R10 := Lib.hid (R9.out.trans r1)
      clear h1 r1
      clear c0 c1 c2 c3 c4 c5 c6 c7 c8
      have E10 := HE.out.wrote R10.out hbg hbr.out
      obtain ⟨_, c0, c1, c2, c3, c4, c5, c6, c7, c8⟩ := E10
      go_wp2_with fail
      refine (wbyte_any g v10 _ x.p _ H10.out (by simp only [List.length_append, List.length_cons, List.length_nil] at hhl ⊢; omega)).mono ?_
      rintro e w11 ⟨rfl, v11, h1, r1⟩
      have H11 := Lib.hid h1
      have R11 := Lib.hid (R10.out.trans r1)
      clear h1 r1
      clear c0 c1 c2 c3 c4 c5 c6 c7 c8
      have E11 := HE.out.wrote R11.out hbg hbr.out
      obtain ⟨_, c0, c1, c2, c3, c4, c5, c6, c7, c8⟩ := E11
      go_wp2_with fail
      refine (wint_any g v11 _ x.v q3 q4 _ H11.out (by simp only [List.length_append, List.length_cons, List.length_nil] at hhl ⊢; omega)).mono ?_
      rintro e w12 ⟨rfl, v12, h1, r1⟩
      have H12 := Lib.hid h1
      have R12 := Lib.hid (R11.out.trans r1)
      clear h1 r1
      clear c0 c1 c2 c3 c4 c5 c6 c7 c8
      have E12 := HE.out.wrote R12.out hbg hbr.out
      obtain ⟨_, c0, c1, c2, c3, c4, c5, c6, c7, c8⟩ := E12
      go_wp2_with fail
      refine (wbyte_any g v12 _ x.w _ H12.out (by simp only [List.length_append, List.length_cons, List.length_nil] at hhl ⊢; omega)).mono ?_
      rintro e w13 ⟨rfl, v13, h1, r1⟩
      have H13 := Lib.hid h1
      have R13 := Lib.hid (R12.out.trans r1)
      clear h1 r1
      clear c0 c1 c2 c3 c4 c5 c6 c7 c8
      have E13 := HE.out.wrote R13.out hbg hbr.out
      obtain ⟨_, c0, c1, c2, c3, c4, c5, c6, c7, c8⟩ := E13
      go_wp2
      go_end0
      refine ⟨rfl, v13, ?_, Rw.out.trans R13.out⟩
      have h1 := H13.out
      rw [← HP.out] at h1
      simp only [evB, tailB, List.append_assoc] at h1 ⊢
      exact h1
end Go.Proofs.Ytgcfofnlgdfmoaa
