/- The walk of watchfirelaw05.FrameTurned. -/
import Derived.Test.YtnagmopejblegaaMa37
import Derived.Test.YtnagmopejblegaaMa46
import Derived.Test.YtnagmopejblegaaMa47
import Derived.Test.YtnagmopejblegaaMa53
import Derived.Test.YtnagmopejblegaaMa16
namespace Go.Proofs.Ytnagmopejblegaa.frameTurned
open Go.RowKit Go.Proofs.Ytnagmopejblegaa
open Go.Proofs.Ytnagmopejblegaa.crcBits (okB_set shl8 Tab_far cellsB_set)

/-- sealed bytes with one bit turned -/
theorem flip_sum {l : List Nat} (hok : OkB l) {q c e : Nat} (hq : (sealB l)[q]? = some c) (he : e < 8) :
    ∃ l2 x0 x1 x2 x3, (sealB l).set q (c ^^^ 2 ^ e) = l2 ++ [x0, x1, x2, x3] ∧ l2.length = l.length ∧ OkB l2 ∧ OkB [x0, x1, x2, x3] ∧ (sumN l2 == takeN [x0, x1, x2, x3]) = false := by
  have hlen : (sealB l).length = l.length + 4 := sealB_len l
  have hoks : OkB (sealB l) := hok.append (okB_four _)
  have hql : q < l.length + 4 := by rw [← hlen]; exact (List.getElem?_eq_some_iff.1 hq).1
  have h0 : reg full (sealB l) = reg full (sealB l) ^^^ stepN (8 * (l.length + 4) - (8 * q + e)) (mask 1 (8 * (l.length + 4) - (8 * q + e)) 0) := by
    rw [mask, stepN_zero, Nat.xor_zero]
  have h1 := burst_step (turn := 1) (k := 0) (f := 8 * q + e) (c := c) hlen (by omega) (by rw [show (8 * q + e + 0) / 8 = q by omega]; exact hq) h0 (by decide)
  rw [show (8 * q + e + 0) / 8 = q by omega, show (8 * q + e + 0) % 8 = e by omega, show reg full (sealB l) = opened from sealed_opens hok] at h1
  have hm1 : mask 1 (8 * (l.length + 4) - (8 * q + e)) (0 + 1) = 1 := by
    rw [mask, if_pos ⟨by decide, by omega⟩]; rfl
  rw [hm1] at h1
  have hc256 : c < 256 := hoks.at_ hq
  have hokm : OkB ((sealB l).set q (c ^^^ 2 ^ e)) := okB_set hoks (Nat.xor_lt_two_pow (n := 8) (by omega) (Nat.pow_lt_pow_right (n := 8) (by decide) (by omega)))
  have hlm : ((sealB l).set q (c ^^^ 2 ^ e)).length = l.length + 4 := by rw [List.length_set, hlen]
  generalize (sealB l).set q (c ^^^ 2 ^ e) = m at *
  obtain ⟨x0, x1, x2, x3, hx⟩ : ∃ x0 x1 x2 x3, m.drop l.length = [x0, x1, x2, x3] := by
    have h4 : (m.drop l.length).length = 4 := by rw [List.length_drop, hlm]; omega
    match m.drop l.length, h4 with
    | [a, b, c, d], _ => exact ⟨a, b, c, d, rfl⟩
  have hsplit : m.take l.length ++ [x0, x1, x2, x3] = m := by rw [← hx, List.take_append_drop]
  have hok4 : OkB [x0, x1, x2, x3] := fun x hxm => hokm x (by rw [← hsplit]; exact List.mem_append_right _ hxm)
  have hiff := burst_opens (l := m.take l.length) (e := [x0, x1, x2, x3]) (n := takeN [x0, x1, x2, x3]) (d := 1) (hokm.take l.length) (takeN_lt rfl hok4) (four_takeN rfl hok4).symm (by decide) (by rw [hsplit]; exact h1)
  refine ⟨m.take l.length, x0, x1, x2, x3, hsplit.symm, by rw [List.length_take, hlm]; omega, hokm.take _, hok4, ?_⟩
  rw [beq_eq_false_iff_ne]
  exact fun h => absurd (hiff.1 h) (by decide)

set_option maxRecDepth 100000 in
set_option maxHeartbeats 8000000 in
theorem walk (s : Sf) (hs : OkSf s) (at_ : Nat) (hat : at_ < 65536) (w : World) :
    Calls Try.prog 3 #[.agg #[.int .u8 s.k, .int .u8 s.f, .int .u8 s.t, .int .u16 s.e, .int .u16 s.q, .int .u16 s.c, .int .u16 s.l, .int .u64 s.b, .bool s.i.g, .int .u8 s.i.o, .int .u8 s.i.p, .int .u8 s.i.w, .int .u16 s.i.q, .int .u16 s.i.m, .int .u16 s.i.t, .int .u8 s.i.r, .int .u8 s.i.l, .int .u8 s.i.v, .bool s.i.s], .int .u16 at_] w fun e w' => e = .returned (.bool true) ∧ Below w.heap.size w w' := by
  have hba : Below w.heap.size w (w.alloc (.cells #[.int .u8 s.k, .int .u8 s.f, .int .u8 s.t, .int .u16 s.e, .int .u16 s.q, .int .u16 s.c, .int .u16 s.l, .int .u64 s.b, .bool s.i.g, .int .u8 s.i.o, .int .u8 s.i.p, .int .u8 s.i.w, .int .u16 s.i.q, .int .u16 s.i.m, .int .u16 s.i.t, .int .u8 s.i.r, .int .u8 s.i.l, .int .u8 s.i.v, .bool s.i.s] 27)) := (Below.refl _ _).alloc (Nat.le_refl _) _
  have K0 := Lib.hid (heap_alloc_new w (.cells #[.int .u8 s.k, .int .u8 s.f, .int .u8 s.t, .int .u16 s.e, .int .u16 s.q, .int .u16 s.c, .int .u16 s.l, .int .u64 s.b, .bool s.i.g, .int .u8 s.i.o, .int .u8 s.i.p, .int .u8 s.i.w, .int .u16 s.i.q, .int .u16 s.i.m, .int .u16 s.i.t, .int .u8 s.i.r, .int .u8 s.i.l, .int .u8 s.i.v, .bool s.i.s] 27))
  have Hba := Lib.hid hba
  have Hs := Lib.hid hs
  obtain ⟨x, hx⟩ : ∃ x, smallF s = x := ⟨_, rfl⟩
  have hxo := smallF_ok hs
  have hxr := smallF_right hs
  have hxs := smallF_short hs
  rw [hx] at hxo hxr hxs
  have Hx := Lib.hid hx
  have Hxo := Lib.hid hxo
  have Hxr := Lib.hid hxr
  have Hxs := Lib.hid hxs
  have hbl := bodyF_len hxo hxs
  have hb4 : 4 ≤ (bodyF x).length := by unfold bodyF; simp only [List.length_cons]; omega
  have Hok := Lib.hid (bodyF_ok hxo hxs)
  obtain ⟨L, hL⟩ : ∃ L, (bodyF x).length = L := ⟨_, rfl⟩
  rw [hL] at hbl hb4
  have HL := Lib.hid hL
  clear hba hs hx hxo hxr hxs hL
  go_enter Try.func3, Try.ntmps3
  go_wp2_with fail
  refine (fawake_any _).mono ?_
  rintro e w1 ⟨rfl, hb1⟩
  have K1 := Lib.hid ((hb1.block w.heap.size (by simp)).trans K0.out)
  have Hb1 := Lib.hid (Hba.out.trans (hb1.mono Hba.out.size))
  have KL : Hid (w.heap.size < w1.heap.size) := by show _ < _; have := hb1.size; simp at this; omega
  clear hb1 K0 Hba
  go_wp2_with fail
  refine (new_any w1).mono ?_
  rintro e w2 ⟨rfl, hb2, hsz2, hT2⟩
  have HT2 := Lib.hid hT2
  have Hsz := Lib.hid hsz2
  have K2 := Lib.hid ((hb2.block w.heap.size KL.out).trans K1.out)
  have Hb2 := Lib.hid (Hb1.out.trans (hb2.mono Hb1.out.size))
  clear hb2 hT2 hsz2 K1
  go_wp2_with (first | (refine wpList_load_row rfl _ _ rfl w.heap.size rfl _ _ _ _ K2.out Try.underlying27 rfl (by kernel_rfl) ?_) | fail)
  refine (smallF_as Hx.out Hs.out w2).mono ?_
  rintro e w3 ⟨A2, n2, c2, rfl, hn2, ho2, hb3⟩
  have HN2 := Lib.hid hn2
  have HR2 := Lib.hid (RdP.of_own ho2)
  have HT3 := Lib.hid (HT2.out.below hb3)
  have Hb3 := Lib.hid (Hb2.out.trans (hb3.mono Hb2.out.size))
  have Hz3 := Lib.hid (show w1.heap.size + 1 ≤ w3.heap.size by have := hb3.size; have := Hsz.out; omega)
  clear hn2 ho2 hb3 HT2 K2 Hs Hx
  go_wp2_with fail
  refine (fencode_any w1.heap.size 0 0 0 (by decide) x A2 n2 c2 Hxo.out Hxs.out Hxr.out HN2.out w3 HT3.out (by decide) (by decide) HR2.out).mono ?_
  rintro e w4 ⟨v, rfl, ho, ht, hT⟩
  rw [HL.out] at ho hT
  obtain ⟨b, c, rfl, hc, hb⟩ := own_posF ho (by omega)
  have Hb4 := Lib.hid (Hb3.out.grown ht.grown Hb3.out.size (fun k hk => by cases hk; exact Hb1.out.size))
  have HT4 := Lib.hid hT
  have HO4 := Lib.hid ho
  have Hbb := Lib.hid hb
  have hgb : b ≠ w1.heap.size := by have := Hz3.out; omega
  have Hgb := Lib.hid hgb
  clear ho ht hT hb hgb HR2 HN2 HT3
  have hz0 : 0 ≤ (at_ : Int) % (8 * ((L : Int) + 4)) := Int.emod_nonneg _ (by omega)
  have hz1 : (at_ : Int) % (8 * ((L : Int) + 4)) < 8 * ((L : Int) + 4) := Int.emod_lt_of_pos _ (by omega)
  go_upto_region 6 with fail
  generalize (at_ : Int) % (8 * ((L : Int) + 4)) = z at *
  obtain ⟨f, rfl⟩ := Int.eq_ofNat_of_zero_le hz0
  have hj : f / 8 < L + 4 := by omega
  obtain ⟨q, hq⟩ : ∃ q, f / 8 = q := ⟨_, rfl⟩
  obtain ⟨e, he⟩ : ∃ e, f % 8 = e := ⟨_, rfl⟩
  obtain ⟨cc, hcc⟩ : ∃ cc, (sealB (bodyF x))[q]? = some cc := ⟨_, List.getElem?_eq_getElem (by rw [sealB_len, HL.out]; omega)⟩
  have hcell : w4.cell? ⟨b, q, none⟩ = some (.int .u8 cc) := by
    have h := HO4.out.cells (g := b) rfl _ _ (cellsB_get hcc)
    rw [Addr.add_lit, Nat.zero_add] at h
    exact h
  have hfz : w4.frozen? ⟨b, q, none⟩ = false := HO4.out.frozenAt _
  have hc256 : cc < 256 := (Hok.out.append (okB_four (sumN (bodyF x)))).at_ hcc
  have hw2 : IntKind.i64.wrap ((f : Int) / 8) = (q : Int) := by
    rw [show (f : Int) / 8 = (q : Int) by omega, IntKind.wrap_i64]; omega
  have hw3 : (f : Int).tmod 8 = (e : Int) := by rw [← he]; rfl
  have hq0 : (0 : Int) ≤ (q : Int) := Int.natCast_nonneg _
  have hq1 : (q : Int) < (L : Int) + 4 := by omega
  have hq2 : (q : Int) < ((L + 4 : Nat) : Int) := by omega
  have he0 : (0 : Int) ≤ (e : Int) := Int.natCast_nonneg _
  have he1 : (e : Int) < 8 := by omega
  have hx2 : bits .xor .u8 (cc : Int) (IntKind.u8.wrap (2 ^ e)) = ((cc ^^^ 2 ^ e : Nat) : Int) := by
    have h2e : 2 ^ e < 256 := Nat.pow_lt_pow_right (n := 8) (by decide) (by omega)
    rw [shl8 e (by omega)]
    exact u8_xor_nat cc (2 ^ e) hc256 h2e
  have Hcc := Lib.hid hcc
  have He := Lib.hid (show e < 8 by omega)
  clear hcc hq he hz0 hz1 hj
  refine wp_region_still_tail 10 (by kernel_rfl) (by kernel_rfl) ?_
  simp only [List.take_succ_cons, List.take_zero, List.drop_succ_cons, List.drop_zero]
  repeat still_step
  refine wpStill_nil ?_
  change wpList _ _ _ _ _ w4.drew
  have hcell2 : w4.drew.cell? ⟨b, q, none⟩ = some (.int .u8 cc) := (World.cell?_drew _ _).trans hcell
  have hfz2 : w4.drew.frozen? ⟨b, q, none⟩ = false := (World.frozen?_drew _ _).trans hfz
  obtain ⟨l2, x0, x1, x2, x3, hset, hl2, hok2, hok4, hno⟩ := flip_sum Hok.out Hcc.out He.out
  have HW5 : Hid (∀ V, V = w4.drew.setCell ⟨b, q, none⟩ (.int .u8 (cc ^^^ 2 ^ e : Nat)) → Below w.heap.size w V ∧ w1.heap.size < V.heap.size ∧ Calls Try.prog 10 #[.pointer (some ⟨w1.heap.size, 0, none⟩), .slice (some ⟨b, 0, none⟩) (L + 4 : Nat) c] V (FDecRet zeroF 10 w1.heap.size (1 + 1) (L + L) V)) := by
    rintro V rfl
    have h := (HO4.out.drew.stored q (.int .u8 (cc ^^^ 2 ^ e : Nat))).1
    have hT := Tab_far (j := q) HT4.out.drew Hgb.out (.int .u8 (cc ^^^ 2 ^ e : Nat))
    rw [Nat.zero_add, Nat.zero_add] at hT
    have h' : (w4.drew.setCell ⟨b, q, none⟩ (.int .u8 (cc ^^^ 2 ^ e : Nat))).ownsRow w3.heap.size 5 1 (.slice (some ⟨b, 0, none⟩) (L + 4) c) (L + 4) (cellsB (l2 ++ [x0, x1, x2, x3])) := by
      rw [← hset, cellsB_set]; exact h
    refine ⟨Hb4.out.drew.setCell (p := ⟨b, q, none⟩) (by show w.heap.size ≤ b; have := Hbb.out; have := Hb3.out.size; omega) _, hT.lt, ?_⟩
    exact fdec_sum w1.heap.size 1 1 L (by decide) b 0 L c l2 x0 x1 x2 x3 _ _ hT (by rw [hl2, HL.out]) (by omega) (by omega) hc (by decide) (by omega) (RdB.of_own h') (Nat.le_refl _) hok2 hok4 Hgb.out hno
  clear hcell hfz hw2 hw3 HT4 HO4 Hb4 hset hl2 hok2 hok4 hno Hcc He Hok Hgb Hbb HL Hxo Hxs Hxr Hz3 Hb3 Hb2 Hsz hq0 hq1 hq2 he0 he1 KL
  generalize w4.drew = w5 at *
  go_upto_region 7 with fail
  obtain ⟨w6, hw6⟩ : ∃ V, V = w5.setCell ⟨b, q, none⟩ (.int .u8 (cc ^^^ 2 ^ e : Nat)) := ⟨_, rfl⟩
  obtain ⟨hb6, hg6, hcall⟩ := HW5.out w6 hw6
  try rw [act_put0]
  rw [← hw6]
  have HB6 := Lib.hid hb6
  have HC6 := Lib.hid hcall
  clear hb6 hcall hw6 HW5 hcell2 hfz2
  go_wp2_with fail
  refine HC6.out.mono ?_
  rintro e w7 ⟨A7, n7, c7, rfl, _, _, ht7, _⟩
  have HB7 := Lib.hid (HB6.out.grown ht7.grown HB6.out.size (fun k hk => by cases hk; exact Hb1.out.size))
  clear ht7 HC6 HB6
  go_wp2_with (first | (refine wpList_store_row rfl _ _ _ rfl w7.heap.size _ rfl rfl _ _ (heap_alloc_new _ _) Try.infoF rfl (by kernel_rfl) ?_) | fail)
  go_ret
  exact ⟨rfl, below_setRow (HB7.out.alloc HB7.out.size _) HB7.out.size _⟩
end Go.Proofs.Ytnagmopejblegaa.frameTurned
