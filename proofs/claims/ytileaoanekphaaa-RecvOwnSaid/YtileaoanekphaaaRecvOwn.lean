/- Layer 11: RecvOwn's walk. -/
import Derived.Test.YtileaoanekphaaaRvAwk
import Derived.Test.YtileaoanekphaaaItSameRef
import Derived.Test.YtileaoanekphaaaItGet2
namespace Go.Proofs.Ytileaoanekphaaa.recvOwn
open Go.RowKit Go.Proofs.Ytileaoanekphaaa

/-- a row of labels that is written over: it has room -/
def RowK (g n : Nat) (W : World) : Prop := ∃ cur, W.heap[g]? = some (.cells cur 66 (0, 0)) ∧ n * 2 ≤ cur.size
theorem RowK.of_own {W : World} {base n c : Nat} {A : Option Addr} {l : List Pr} (h : W.ownsRow base 66 2 (.slice A n c) n (cellsP l)) (h0 : 0 < n) : ∃ g, A = some ⟨g, 0, none⟩ ∧ base ≤ g ∧ g < W.heap.size ∧ RowK g n W := by
  rcases h.2 with ⟨_, e0⟩ | ⟨g, cap, cur, e, hb, hg, hn, hz, hc, _⟩
  · omega
  · injection e with e1 _ e3
    refine ⟨g, e1, hb, (Array.getElem?_eq_some_iff.1 hg).1, cur, hg, ?_⟩
    rw [hc]
    exact Nat.mul_le_mul_right 2 hn
theorem RowK.other {W : World} {g n b i : Nat} {u : Value} (h : RowK g n W) (hb : g ≠ b) : RowK g n (W.setCell ⟨b, i, none⟩ u) := by
  obtain ⟨cur, h1, h2⟩ := h
  exact ⟨cur, (heap_setCell_other W ⟨b, i, none⟩ g u hb).trans h1, h2⟩
theorem RowK.same {W : World} {g n i : Nat} {u : Value} (h : RowK g n W) : RowK g n (W.setCell ⟨g, i, none⟩ u) := by
  obtain ⟨cur, h1, h2⟩ := h
  exact ⟨_, heap_setCell_same W g i _ _ u h1, by simpa using h2⟩
theorem RowK.below {W W' : World} {g n : Nat} (h : RowK g n W) (hb : Below W.heap.size W W') : RowK g n W' := by
  obtain ⟨cur, h1, h2⟩ := h
  exact ⟨cur, (hb.block _ (Array.getElem?_eq_some_iff.1 h1).1).trans h1, h2⟩
/-- the small numbers at block p, an item at p1, the receiver -/
structure RO (w w' : World) (p p1 s m : Nat) (t : Sm) (x : It) (A : Option Addr) (n c : Nat) (X : Rv) (F : Hs) (k : Nat) : Prop where
  bl : Below w.heap.size w w'
  h0 : w'.heap[p]? = some (.cells #[.bool t.g, .int .u8 t.o, .int .u8 t.p, .int .u8 t.w, .int .u16 t.q, .int .u16 t.m, .int .u16 t.t, .int .u8 t.r, .int .u8 t.l, .int .u8 t.v, .bool t.s] 35 (0, 0))
  h1 : w'.heap[p1]? = some (.cells #[.bool x.g, .int .u8 x.o, .int .u64 x.q, .int .u64 x.t, .string x.r, .slice A n c, .int .u8 x.s, .int .u8 x.p, .int .i64 x.v, .int .u8 x.w, .int .u8 x.ga, .int .u64 x.gf, .int .u64 x.gt] 43 (0, 0))
  rv : RvAt w' s m X F k
section
variable {w w1 w2 : World} {p p1 s m : Nat} {t : Sm} {x : It} {A : Option Addr} {n c : Nat} {X : Rv} {F : Hs} {k : Nat}
theorem RO.below (h : RO w w1 p p1 s m t x A n c X F k) (hb : Below w1.heap.size w1 w2) : RO w w2 p p1 s m t x A n c X F k :=
  ⟨h.bl.trans (hb.mono h.bl.size), (hb.block _ (Array.getElem?_eq_some_iff.1 h.h0).1).trans h.h0, (hb.block _ (Array.getElem?_eq_some_iff.1 h.h1).1).trans h.h1, h.rv.below hb⟩
theorem RO.set {g i : Nat} {u : Value} (h : RO w w1 p p1 s m t x A n c X F k) (hg : w.heap.size ≤ g) (hn : g ≠ p ∧ g ≠ p1 ∧ g ≠ s ∧ g ≠ m) (hE : ∀ q h, F q = some h → ∀ a, h.A = some a → 0 < h.x.l.length → ¬ a.block = g) :
    RO w (w1.setCell ⟨g, i, none⟩ u) p p1 s m t x A n c X F k :=
  ⟨h.bl.setCell (p := ⟨g, i, none⟩) hg u, (heap_setCell_other w1 ⟨g, i, none⟩ p u (fun e => hn.1 e.symm)).trans h.h0, (heap_setCell_other w1 ⟨g, i, none⟩ p1 u (fun e => hn.2.1 e.symm)).trans h.h1,
    h.rv.keep (T := fun b => b = g) (Only.setCell _ _ _ rfl) (fun e => hn.2.2.1 e.symm) (fun e => hn.2.2.2 e.symm) hE⟩
end
theorem or3 (l : Nat) (h : l < 256) : bits .or .u8 (l : Int) 3 = ((l ||| 3 : Nat) : Int) ∧ (l ||| 3) < 256 ∧ (l ||| 3) % 4 = 3 := by
  refine ⟨u8_or_nat l 3 h (by decide), Nat.or_lt_two_pow (n := 8) h (by decide), ?_⟩
  have h1 : (l ||| 3) % 2 ^ 2 = l % 2 ^ 2 ||| 3 % 2 ^ 2 := Nat.or_mod_two_pow
  have h2 : l % 4 < 4 := Nat.mod_lt _ (by decide)
  show (l ||| 3) % 2 ^ 2 = 3
  rw [h1]
  show l % 4 ||| 3 = 3
  generalize l % 4 = j at h2
  match j, h2 with
  | 0, _ => rfl
  | 1, _ => rfl
  | 2, _ => rfl
  | 3, _ => rfl
set_option maxRecDepth 100000 in
set_option maxHeartbeats 4000000 in
theorem walk (t : Sm) (ht : OkS t) (w : World) :
    Calls Try.prog 5 #[.agg #[.bool t.g, .int .u8 t.o, .int .u8 t.p, .int .u8 t.w, .int .u16 t.q, .int .u16 t.m, .int .u16 t.t, .int .u8 t.r, .int .u8 t.l, .int .u8 t.v, .bool t.s]] w fun e w' => e = .returned (.bool true) ∧ Below w.heap.size w w' := by
  obtain ⟨V, hV⟩ : ∃ V, V = w.alloc (.cells #[.bool t.g, .int .u8 t.o, .int .u8 t.p, .int .u8 t.w, .int .u16 t.q, .int .u16 t.m, .int .u16 t.t, .int .u8 t.r, .int .u8 t.l, .int .u8 t.v, .bool t.s] 35) := ⟨_, rfl⟩
  have hbV : Below w.heap.size w V := by rw [hV]; exact (Below.refl _ _).alloc (Nat.le_refl _) _
  have hcV : V.heap[w.heap.size]? = some (.cells #[.bool t.g, .int .u8 t.o, .int .u8 t.p, .int .u8 t.w, .int .u16 t.q, .int .u16 t.m, .int .u16 t.t, .int .u8 t.r, .int .u8 t.l, .int .u8 t.v, .bool t.s] 35 (0, 0)) := by rw [hV]; exact heap_alloc_new _ _
  have hlV : w.heap.size < V.heap.size := by rw [hV]; simp
  obtain ⟨ho1, ho2, ho3⟩ := or3 t.l ht.l
  obtain ⟨L, hL⟩ : ∃ L, L = t.l ||| 3 := ⟨_, rfl⟩
  rw [← hL] at ho1 ho2 ho3
  obtain ⟨t2, ht2⟩ : ∃ t2 : Sm, t2 = { t with g := false, l := L } := ⟨_, rfl⟩
  have hok2 : OkS t2 := by
    rw [ht2]
    exact ⟨ht.o, ht.p, ht.w, ht.q, ht.m, ht.t, ht.r, ho2, ht.v⟩
  obtain ⟨x, hx⟩ : ∃ x, smallI t2 = x := ⟨_, rfl⟩
  have hx0 : itemN x = 0 := by rw [← hx]; exact smallI_right t2 hok2
  have hxl : x.l.length = 3 := by
    rw [← hx, smallI_ev t2 (by rw [ht2])]
    show (labsS t2 (t2.l % 4)).length = 3
    rw [labsS_length, ht2]
    exact ho3
  have HV := Lib.hid hV
  have HCV := Lib.hid hcV
  have HBV := Lib.hid (⟨hbV, hlV⟩ : _ ∧ _)
  have HX := Lib.hid (⟨hx0, hxl⟩ : _ ∧ _)
  have HSM : Hid (∀ W, Calls Try.prog 11 #[.agg #[.bool t2.g, .int .u8 t2.o, .int .u8 t2.p, .int .u8 t2.w, .int .u16 t2.q, .int .u16 t2.m, .int .u16 t2.t, .int .u8 t2.r, .int .u8 t2.l, .int .u8 t2.v, .bool t2.s]] W (ItRet x W)) := fun W => smallItem_as hx hok2 W
  have HT2 := Lib.hid ht2
  have HAW := Lib.hid (awake11_any V)
  clear hV hbV hcV hlV ho2 ho3 hL ht2 hok2 hx hx0 hxl ht
  go_enter Try.func5, Try.ntmps5
  go_upto_region 1 with fail
  rw [← HV.out]
  go_wp2_with fail
  refine HAW.out.mono ?_
  rintro _ w1 ⟨rfl, hb1⟩
  have HC1 := Lib.hid ((hb1.block _ HBV.out.2).trans HCV.out)
  have c8 : w1.cell? ⟨w.heap.size, 8, none⟩ = some (.int .u8 t.l) := cell_of_row _ _ 8 _ _ _ HC1.out
  have c0 : w1.cell? ⟨w.heap.size, 0, none⟩ = some (.bool t.g) := cell_of_row _ _ 0 _ _ _ HC1.out
  have f8 : w1.frozen? ⟨w.heap.size, 8, none⟩ = false := frozen_of_row _ _ 8 _ _ HC1.out
  have HB1 := Lib.hid (HBV.out.1.trans (hb1.mono HBV.out.1.size))
  have HL1 := Lib.hid (Nat.lt_of_lt_of_le HBV.out.2 hb1.size)
  clear hb1 HCV HAW HBV HV
  have hb2 : Below w.heap.size w ((w1.setCell ⟨w.heap.size, 8, none⟩ (.int .u8 L)).setCell ⟨w.heap.size, 0, none⟩ (.bool false)) := (HB1.out.setCell (p := ⟨w.heap.size, 8, none⟩) (Nat.le_refl _) _).setCell (p := ⟨w.heap.size, 0, none⟩) (Nat.le_refl _) _
  have hc2 : ((w1.setCell ⟨w.heap.size, 8, none⟩ (.int .u8 L)).setCell ⟨w.heap.size, 0, none⟩ (.bool false)).heap[w.heap.size]? = some (.cells #[.bool t2.g, .int .u8 t2.o, .int .u8 t2.p, .int .u8 t2.w, .int .u16 t2.q, .int .u16 t2.m, .int .u16 t2.t, .int .u8 t2.r, .int .u8 t2.l, .int .u8 t2.v, .bool t2.s] 35 (0, 0)) := by
    rw [heap_setCell_same _ w.heap.size 0 _ _ _ (heap_setCell_same w1 w.heap.size 8 _ _ (.int .u8 L) HC1.out), HT2.out]
    rfl
  have f0 : (w1.setCell ⟨w.heap.size, 8, none⟩ (.int .u8 L)).frozen? ⟨w.heap.size, 0, none⟩ = false := by
    rw [World.frozen?_setCell]
    exact frozen_of_row _ _ 0 _ _ HC1.out
  have hl2 : w.heap.size < ((w1.setCell ⟨w.heap.size, 8, none⟩ (.int .u8 L)).setCell ⟨w.heap.size, 0, none⟩ (.bool false)).heap.size := (Array.getElem?_eq_some_iff.1 hc2).1
  have HC2 := Lib.hid hc2
  have HB2 := Lib.hid (⟨hb2, hl2⟩ : _ ∧ _)
  clear hb2 hc2 hl2
  go_upto_region 5 with fail
  obtain ⟨w2, hw2⟩ : ∃ z, z = (w1.setCell ⟨w.heap.size, 8, none⟩ (.int .u8 L)).setCell ⟨w.heap.size, 0, none⟩ (.bool false) := ⟨_, rfl⟩
  rw [← hw2] at HC2 HB2 ⊢
  clear hw2 c0 c8 f8 f0 HC1 HB1 HL1 ho1
  go_wp2_with fail
  refine (rnew_any 3 (by decide) (by decide) w2).mono ?_
  rintro _ w3 ⟨rfl, hr3, hb3⟩
  obtain ⟨s, hs⟩ : ∃ s, s = w2.heap.size + 1 := ⟨_, rfl⟩
  obtain ⟨m, hm⟩ : ∃ m, m = w2.heap.size := ⟨_, rfl⟩
  rw [← hs] at hr3 ⊢
  rw [← hm] at hr3
  have HSMN : Hid ((w.heap.size ≤ s ∧ w.heap.size ≤ m) ∧ w.heap.size ≠ s ∧ w.heap.size ≠ m) := by
    have h1 := HB2.out.2
    exact ⟨⟨by omega, by omega⟩, by omega, by omega⟩
  have HR3 := Lib.hid hr3
  have HC3 := Lib.hid ((hb3.block _ HB2.out.2).trans HC2.out)
  have HB3 := Lib.hid (HB2.out.1.trans (hb3.mono HB2.out.1.size))
  have HL3 := Lib.hid (Nat.lt_of_lt_of_le HB2.out.2 hb3.size)
  clear hr3 hb3 hs hm HC2 HB2
  go_wp2_with (first
    | (refine wpList_load_row rfl _ _ rfl w.heap.size rfl _ _ _ _ HC3.out Try.underlying35 rfl (by kernel_rfl) ?_)
    | fail)
  refine (HSM.out w3).mono ?_
  rintro _ w4 ⟨A, n, c, rfl, hn, ho4, hb4⟩
  obtain rfl : n = 3 := hn.trans HX.out.2
  have hbw4 := HB3.out.trans (hb4.mono HB3.out.size)
  have HO4 := Lib.hid ho4
  have HB4 := Lib.hid hb4
  clear hn ho4 hb4
  go_upto_region 7 with (first | (refine wpList_store_row rfl _ _ _ rfl w4.heap.size #[.bool x.g, .int .u8 x.o, .int .u64 x.q, .int .u64 x.t, .string x.r, .slice A 3 c, .int .u8 x.s, .int .u8 x.p, .int .i64 x.v, .int .u8 x.w, .int .u8 x.ga, .int .u64 x.gf, .int .u64 x.gt] rfl rfl _ _ (heap_alloc_new _ _) Try.infoIt rfl (by simp [Value.oneCell']) ?_) | fail)
  obtain ⟨w5, hw5, hc5, hb5, hl5⟩ := boxI w4 #[.bool false, .int .u8 0, .int .u64 0, .int .u64 0, .string ⟨#[]⟩, .slice none 0 0, .int .u8 0, .int .u8 0, .int .i64 0, .int .u8 0, .int .u8 0, .int .u64 0, .int .u64 0] #[.bool x.g, .int .u8 x.o, .int .u64 x.q, .int .u64 x.t, .string x.r, .slice A 3 c, .int .u8 x.s, .int .u8 x.p, .int .i64 x.v, .int .u8 x.w, .int .u8 x.ga, .int .u64 x.gf, .int .u64 x.gt]
  first | rw [← hw5, act_put_no] | rw [← hw5]
  obtain ⟨p1, hp1⟩ : ∃ p, p = w4.heap.size := ⟨_, rfl⟩
  rw [← hp1] at hc5 hl5 ⊢
  have hr4 := HR3.out.below HB4.out
  have hro : RO w w5 w.heap.size p1 s m t2 x A 3 c ⟨3, 0, 0⟩ (fun _ => none) 0 :=
    ⟨hbw4.trans (hb5.mono hbw4.size), ((HB4.out.trans (hb5.mono HB4.out.size)).block _ HL3.out).trans HC3.out, hc5, hr4.below hb5⟩
  have ho5 := own_below HO4.out hb5
  obtain ⟨g, hA, hg1, hg2, hrk⟩ := RowK.of_own ho5 (by decide)
  have hg2' : g < p1 := by have := (HO4.out.lt g (by rw [hA]; rfl)).2; omega
  have ht5 := rtake_ok (q := 1) (n := 1) (x := x) (A := A) (N := 3) (c := c) w5 hro.rv rfl (by decide) (by decide) (by decide) (by decide) (by decide) rfl (by decide) HX.out.1 HX.out.2.symm (fun h => by rw [hA] at h; cases h) (by decide) (RdP.of_own ho5)
  have HT5 := Lib.hid ht5
  have HRO5 := Lib.hid hro
  have HRK5 := Lib.hid hrk
  have HG : Hid (w.heap.size ≤ g ∧ g ≠ w.heap.size ∧ g ≠ p1 ∧ g ≠ s ∧ g ≠ m ∧ g < w5.heap.size ∧ p1 ≠ s ∧ p1 ≠ m) := by
    have h1 := HR3.out.slt
    have h2 := HR3.out.mi.lt
    have h3 := HL3.out
    have h4 := HB3.out.size
    have h5 := hr4.slt
    have h6 := hr4.mi.lt
    exact ⟨by omega, by omega, by omega, by omega, by omega, by omega, by omega, by omega⟩
  subst hA
  clear hbw4 hw5 hc5 hb5 hl5 hr4 hro ho5 hg1 hg2 hg2' hrk ht5 HO4 HB4 HR3 HC3 HB3 HL3 hp1
  go_wp2_with (first
    | (refine wpList_load_row rfl _ _ rfl p1 rfl _ _ _ _ HRO5.out.h1 Try.underlying43 rfl (by kernel_rfl) ?_)
    | fail)
  refine HT5.out.mono ?_
  rintro _ w6 ⟨rfl, A6, c6, hr6, hn6, ho6⟩
  have hro6 : RO w w6 w.heap.size p1 s m t2 x (some ⟨g, 0, none⟩) 3 c ⟨3, 0, 0⟩ (putF (fun _ => none) 1 ⟨x, A6, c6⟩) 1 :=
    ⟨only_two_below HRO5.out.bl ho6 HSMN.out.1.1 HSMN.out.1.2, only_two_row ho6 HRO5.out.h0 HSMN.out.2.1 HSMN.out.2.2, only_two_row ho6 HRO5.out.h1 HG.out.2.2.2.2.2.2.1 HG.out.2.2.2.2.2.2.2, hr6⟩
  have HRK6 : Hid (RowK g 3 w6) := by
    obtain ⟨cur, h1, h2⟩ := HRK5.out
    exact ⟨cur, only_two_row ho6 h1 HG.out.2.2.2.1 HG.out.2.2.2.2.1, h2⟩
  have HE6 : Hid (∀ q h, putF (fun _ => none) 1 ⟨x, A6, c6⟩ q = some h → ∀ a, h.A = some a → 0 < h.x.l.length → w5.heap.size ≤ a.block) := fun q h hq a ha h0 => by
    unfold putF at hq
    split at hq
    · injection hq with hq
      subst hq
      exact hn6 a ha h0
    · cases hq
  have HF6 : Hid (putF (fun _ => none) 1 ⟨x, A6, c6⟩ 1 = some ⟨x, A6, c6⟩) := rfl
  obtain ⟨F, hF⟩ : ∃ F, F = putF (fun _ => none) 1 ⟨x, A6, c6⟩ := ⟨_, rfl⟩
  rw [← hF] at hro6 HE6 HF6
  have HRO6 := Lib.hid hro6
  have c5 : w6.cell? ⟨p1, 5, none⟩ = some (.slice (some ⟨g, 0, none⟩) 3 c) := cell_of_row _ _ 5 _ _ _ hro6.h1
  clear hr6 hn6 ho6 hro6 hF HT5 HRO5 HRK5
  go_wp2_with fail
  clear c5
  go_loopw [33] (fun iv wr => ∃ k : Nat, k ≤ 3 ∧ iv = .int .i64 k ∧ Hid (RO w wr w.heap.size p1 s m t2 x (some ⟨g, 0, none⟩) 3 c ⟨3, 0, 0⟩ F 1) ∧ Hid (RowK g 3 wr)) (fun iv _ => 3 - (intOf iv).toNat)
  case atStart => exact ⟨0, Nat.zero_le _, rfl, HRO6.out, HRK6.out⟩
  case round =>
    obtain ⟨k, hk, rfl, HRr, HKr⟩ := hrel
    clear HRO6 HRK6
    by_cases hlt : k < 3
    · have d1 : decide ((k : Int) < 3) = true := decide_eq_true (by omega)
      have d2 : decide (k < 3) = true := decide_eq_true hlt
      obtain ⟨cur, h3, h4⟩ := HKr.out
      have c5 : wr.cell? ⟨p1, 5, none⟩ = some (.slice (some ⟨g, 0, none⟩) 3 c) := cell_of_row _ _ 5 _ _ _ HRr.out.h1
      have hq : k * 2 < cur.size := by omega
      have cq : wr.cell? ⟨g, k * 2, none⟩ = some cur[k * 2] := (cell_of_row _ _ _ _ _ _ h3).trans (Array.getElem?_eq_getElem hq)
      have fq : wr.frozen? ⟨g, k * 2, none⟩ = false := frozen_of_row _ _ _ _ _ h3
      have HRn := Lib.hid (HRr.out.set (g := g) (i := k * 2) (u := .string ⟨#[122, 122]⟩) HG.out.1 ⟨HG.out.2.1, HG.out.2.2.1, HG.out.2.2.2.1, HG.out.2.2.2.2.1⟩ (fun q h hq a ha h0 e => by
        have h1 := HE6.out q h hq a ha h0
        have h2 := HG.out.2.2.2.2.2.1
        omega))
      have HKn := Lib.hid (HKr.out.same (i := k * 2) (u := .string ⟨#[122, 122]⟩))
      clear HRr HKr h3 h4
      generalize cur[k * 2] = u at cq
      go_wp2
      exact ⟨⟨k + 1, by omega, by go_num, HRn.out, HKn.out⟩, by simp [intOf]; omega⟩
    · obtain rfl : k = 3 := by omega
      have HPK := Lib.hid (rpeek_some (n := 1) (x := x) (A := A6) (c := c6) wr HRr.out.rv rfl (by decide) HF6.out)
      clear hlt hk HKr
      go_wp2_with fail
      refine HPK.out.mono ?_
      rintro _ w7 ⟨A7, c7, rfl, ho7, hb7⟩
      rw [HX.out.2] at ho7 ⊢
      have hro7 := HRr.out.below hb7
      have HO7 := Lib.hid ho7
      have HE7 : Hid (∀ q h, F q = some h → ∀ a, h.A = some a → 0 < h.x.l.length → a.block < wr.heap.size) := fun q h hq a ha h0 => rdP_lt (HRr.out.rv.ent q h hq).rd ha h0
      have HL7 : Hid (p1 < wr.heap.size ∧ w.heap.size < wr.heap.size ∧ s < wr.heap.size ∧ m < wr.heap.size ∧ wr.heap.size ≤ w7.heap.size ∧ w.heap.size ≤ wr.heap.size) := ⟨(Array.getElem?_eq_some_iff.1 HRr.out.h1).1, (Array.getElem?_eq_some_iff.1 HRr.out.h0).1, HRr.out.rv.slt, HRr.out.rv.mi.lt, hb7.size, HRr.out.bl.size⟩
      have HRO7 := Lib.hid hro7
      clear ho7 hb7 hro7 HPK HRr HE6
      go_upto_region 14 with (first | (refine wpList_store_row rfl _ _ _ rfl w7.heap.size #[.bool x.g, .int .u8 x.o, .int .u64 x.q, .int .u64 x.t, .string x.r, .slice A7 3 c7, .int .u8 x.s, .int .u8 x.p, .int .i64 x.v, .int .u8 x.w, .int .u8 x.ga, .int .u64 x.gf, .int .u64 x.gt] rfl rfl _ _ (heap_alloc_new _ _) Try.infoIt rfl (by simp [Value.oneCell']) ?_) | fail)
      obtain ⟨w8, hw8, hc8, hb8, hl8⟩ := boxI w7 #[.bool false, .int .u8 0, .int .u64 0, .int .u64 0, .string ⟨#[]⟩, .slice none 0 0, .int .u8 0, .int .u8 0, .int .i64 0, .int .u8 0, .int .u8 0, .int .u64 0, .int .u64 0] #[.bool x.g, .int .u8 x.o, .int .u64 x.q, .int .u64 x.t, .string x.r, .slice A7 3 c7, .int .u8 x.s, .int .u8 x.p, .int .i64 x.v, .int .u8 x.w, .int .u8 x.ga, .int .u64 x.gf, .int .u64 x.gt]
      rw [← hw8]
      obtain ⟨p2, hp2⟩ : ∃ p, p = w7.heap.size := ⟨_, rfl⟩
      rw [← hp2] at hc8 hl8 ⊢
      have hro8 := HRO7.out.below hb8
      obtain ⟨g7, hA7, hg7, hg8, hrk8⟩ := RowK.of_own (own_below HO7.out hb8) (by decide)
      have hgp : g7 < p2 := by have := (HO7.out.lt g7 (by rw [hA7]; rfl)).2; omega
      have HRO8 : Hid (RO w w8 w.heap.size p2 s m t2 x A7 3 c7 ⟨3, 0, 0⟩ F 1) := ⟨hro8.bl, hro8.h0, hc8, hro8.rv⟩
      have HRK8 := Lib.hid hrk8
      have HG8 : Hid (w.heap.size ≤ g7 ∧ (g7 ≠ w.heap.size ∧ g7 ≠ p2 ∧ g7 ≠ s ∧ g7 ≠ m) ∧ wr.heap.size ≤ g7) := by
        have h1 := HL7.out
        exact ⟨by omega, ⟨by omega, by omega, by omega, by omega⟩, hg7⟩
      have c5 : w8.cell? ⟨p2, 5, none⟩ = some (.slice A7 3 c7) := cell_of_row _ _ 5 _ _ _ hc8
      subst hA7
      clear hw8 hc8 hb8 hl8 hro8 hg7 hg8 hrk8 hgp HRO7 HO7 hp2
      go_wp2_with fail
      clear c5
      go_loopw [52] (fun iv wr2 => ∃ k : Nat, k ≤ 3 ∧ iv = .int .i64 k ∧ Hid (RO w wr2 w.heap.size p2 s m t2 x (some ⟨g7, 0, none⟩) 3 c7 ⟨3, 0, 0⟩ F 1) ∧ Hid (RowK g7 3 wr2)) (fun iv _ => 3 - (intOf iv).toNat)
      case atStart => exact ⟨0, Nat.zero_le _, rfl, HRO8.out, HRK8.out⟩
      case round =>
        obtain ⟨k, hk, rfl, HRq, HKq⟩ := hrel
        clear HRO8 HRK8
        by_cases hlt : k < 3
        · have d1 : decide ((k : Int) < 3) = true := decide_eq_true (by omega)
          have d2 : decide (k < 3) = true := decide_eq_true hlt
          obtain ⟨cur, h3, h4⟩ := HKq.out
          have c5 : wr.cell? ⟨p2, 5, none⟩ = some (.slice (some ⟨g7, 0, none⟩) 3 c7) := cell_of_row _ _ 5 _ _ _ HRq.out.h1
          have hq : k * 2 + 1 < cur.size := by omega
          have cq : wr.cell? ⟨g7, k * 2 + 1, none⟩ = some cur[k * 2 + 1] := (cell_of_row _ _ _ _ _ _ h3).trans (Array.getElem?_eq_getElem hq)
          have fq : wr.frozen? ⟨g7, k * 2 + 1, none⟩ = false := frozen_of_row _ _ _ _ _ h3
          have HRn := Lib.hid (HRq.out.set (g := g7) (i := k * 2 + 1) (u := .string ⟨#[113]⟩) HG8.out.1 HG8.out.2.1 (fun q h hq a ha h0 e => by
            have h1 := HE7.out q h hq a ha h0
            have h2 := HG8.out.2.2
            omega))
          have HKn := Lib.hid (HKq.out.same (i := k * 2 + 1) (u := .string ⟨#[113]⟩))
          clear HRq HKq h3 h4
          generalize cur[k * 2 + 1] = u at cq
          go_wp2
          exact ⟨⟨k + 1, by omega, by go_num, HRn.out, HKn.out⟩, by simp [intOf]; omega⟩
        · obtain rfl : k = 3 := by omega
          have HPK := Lib.hid (rpeek_some (n := 1) (x := x) (A := A6) (c := c6) wr HRq.out.rv rfl (by decide) HF6.out)
          clear hlt hk HKq
          go_wp2_with fail
          refine HPK.out.mono ?_
          rintro _ w9 ⟨A9, c9, rfl, ho9, hb9⟩
          rw [HX.out.2] at ho9 ⊢
          have HRO9 := Lib.hid (HRq.out.below hb9)
          have HO9 := Lib.hid ho9
          clear ho9 hb9 HPK HRq HE7 HL7
          go_upto_region 20 with (first | (refine wpList_store_row rfl _ _ _ rfl w9.heap.size #[.bool x.g, .int .u8 x.o, .int .u64 x.q, .int .u64 x.t, .string x.r, .slice A9 3 c9, .int .u8 x.s, .int .u8 x.p, .int .i64 x.v, .int .u8 x.w, .int .u8 x.ga, .int .u64 x.gf, .int .u64 x.gt] rfl rfl _ _ (heap_alloc_new _ _) Try.infoIt rfl (by simp [Value.oneCell']) ?_) | fail)
          obtain ⟨w10, hw10, hc10, hb10, hl10⟩ := boxI w9 #[.bool false, .int .u8 0, .int .u64 0, .int .u64 0, .string ⟨#[]⟩, .slice none 0 0, .int .u8 0, .int .u8 0, .int .i64 0, .int .u8 0, .int .u8 0, .int .u64 0, .int .u64 0] #[.bool x.g, .int .u8 x.o, .int .u64 x.q, .int .u64 x.t, .string x.r, .slice A9 3 c9, .int .u8 x.s, .int .u8 x.p, .int .i64 x.v, .int .u8 x.w, .int .u8 x.ga, .int .u64 x.gf, .int .u64 x.gt]
          rw [← hw10]
          obtain ⟨p3, hp3⟩ : ∃ p, p = w9.heap.size := ⟨_, rfl⟩
          rw [← hp3] at hc10 hl10 ⊢
          have hro10 := HRO9.out.below hb10
          have HB10 := Lib.hid hro10.bl
          have HD : Hid (∀ W, Below w10.heap.size w10 W → W.heap[p3]? = some (.cells #[.bool x.g, .int .u8 x.o, .int .u64 x.q, .int .u64 x.t, .string x.r, .slice A9 3 c9, .int .u8 x.s, .int .u8 x.p, .int .i64 x.v, .int .u8 x.w, .int .u8 x.ga, .int .u64 x.gf, .int .u64 x.gt] 43 (0, 0)) ∧ W.heap[w.heap.size]? = some (.cells #[.bool t2.g, .int .u8 t2.o, .int .u8 t2.p, .int .u8 t2.w, .int .u16 t2.q, .int .u16 t2.m, .int .u16 t2.t, .int .u8 t2.r, .int .u8 t2.l, .int .u8 t2.v, .bool t2.s] 35 (0, 0))) := fun W hW => ⟨(hW.block _ hl10).trans hc10, (hW.block _ (Array.getElem?_eq_some_iff.1 hro10.h0).1).trans hro10.h0⟩
          have HRD : Hid (∀ W, Below w10.heap.size w10 W → RdP W W.heap.size A9 x.l) := fun W hW => RdP.of_own (own_below (own_below HO9.out hb10) hW)
          clear hw10 hc10 hb10 hl10 hro10 hp3 HRO9 HO9
          refine wp_region_noPanic ?_
          refine wp_region_held_drew (S := fun W => Below w10.heap.size w10 W) (by kernel_rfl) ?_ (fun hHeld => ?_)
          · exact (Below.refl _ _).drew
          try simp only [heldPut, List.set]
          refine heldTake (i := 0) (v := ?_) rfl (by kernel_rfl) (by kernel_rfl) (by kernel_rfl) (fun _ _ _ h => h) (Or.inl ⟨by rfl, ?_⟩) (by assumption) ?_
          rotate_left
          · (intro W hSw; (try dsimp only at hSw); go_simp; try with_reducible rfl)
          try simp only [heldPut, List.set]
          refine heldTake (i := 1) (v := ?_) rfl (by kernel_rfl) (by kernel_rfl) (by kernel_rfl) (fun _ _ _ h => h) (Or.inl ⟨by rfl, ?_⟩) (by assumption) ?_
          rotate_left
          · (intro W hSw; (try dsimp only at hSw); go_simp; try with_reducible rfl)
          try simp only [heldPut, List.set]
          refine heldTake (i := 2) (v := ?_) rfl (by kernel_rfl) (by kernel_rfl) (by kernel_rfl) (fun _ _ _ h => h) (Or.inl ⟨by rfl, ?_⟩) (by assumption) ?_
          rotate_left
          · (intro W hSw; (try dsimp only at hSw); go_simp; try with_reducible rfl)
          try simp only [heldPut, List.set]
          refine heldTake (i := 3) (v := ?_) rfl (by kernel_rfl) (by kernel_rfl) (by kernel_rfl) (fun _ _ _ h => h) (Or.inl ⟨by rfl, ?_⟩) (by assumption) ?_
          rotate_left
          · (intro W hSw; (try dsimp only at hSw); go_simp; try with_reducible rfl)
          try simp only [heldPut, List.set]
          refine heldTake (i := 4) (v := ?_) rfl (by kernel_rfl) (by kernel_rfl) (by kernel_rfl) (fun _ _ _ h => h) (Or.inl ⟨by rfl, ?_⟩) (by assumption) ?_
          rotate_left
          · (intro W hSw; (try dsimp only at hSw); go_simp; try with_reducible rfl)
          try simp only [heldPut, List.set]
          refine heldTake (i := 5) (v := ?_) rfl (by kernel_rfl) (by kernel_rfl) (by kernel_rfl) (fun _ _ _ h => h) (Or.inl ⟨by rfl, ?_⟩) (by assumption) ?_
          rotate_left
          · (intro W hSw; (try dsimp only at hSw); go_simp; try with_reducible rfl)
          try simp only [heldPut, List.set]
          refine heldTake (i := 6) (v := ?_) rfl (by kernel_rfl) (by kernel_rfl) (by kernel_rfl) (fun _ _ _ h => h) (Or.inl ⟨by rfl, ?_⟩) (by assumption) ?_
          rotate_left
          · (intro W hSw; (try dsimp only at hSw); go_simp; try with_reducible rfl)
          try simp only [heldPut, List.set]
          refine heldTake (i := 7) (v := ?_) rfl (by kernel_rfl) (by kernel_rfl) (by kernel_rfl) (fun _ _ _ h => h) (Or.inl ⟨by rfl, ?_⟩) (by assumption) ?_
          rotate_left
          · (intro W hSw; (try dsimp only at hSw); go_simp; try with_reducible rfl)
          try simp only [heldPut, List.set]
          refine heldTake (i := 8) (v := ?_) rfl (by kernel_rfl) (by kernel_rfl) (by kernel_rfl) (fun _ _ _ h => h) (Or.inl ⟨by rfl, ?_⟩) (by assumption) ?_
          rotate_left
          · (intro W hSw; (try dsimp only at hSw); go_simp; try with_reducible rfl)
          try simp only [heldPut, List.set]
          refine heldTake (i := 9) (v := ?_) rfl (by kernel_rfl) (by kernel_rfl) (by kernel_rfl) (fun _ _ _ h => h) (Or.inl ⟨by rfl, ?_⟩) (by assumption) ?_
          rotate_left
          · (intro W hSw; (try dsimp only at hSw); go_simp; try with_reducible rfl)
          try simp only [heldPut, List.set]
          refine heldTake (i := 10) (v := .agg #[.bool x.g, .int .u8 x.o, .int .u64 x.q, .int .u64 x.t, .string x.r, .slice A9 3 c9, .int .u8 x.s, .int .u8 x.p, .int .i64 x.v, .int .u8 x.w, .int .u8 x.ga, .int .u64 x.gf, .int .u64 x.gt]) rfl (by kernel_rfl) (by kernel_rfl) (by kernel_rfl) (fun _ _ _ h => h) (Or.inl ⟨by rfl, ?_⟩) (by assumption) ?_
          · (intro W hSw; exact exec_load_row 43 _ rfl p3 rfl _ _ _ _ (HD.out W hSw).1 Try.underlying43 rfl Try.infoIt)
          try simp only [heldPut, List.set]
          refine heldTake (i := 11) (v := .agg #[.bool t2.g, .int .u8 t2.o, .int .u8 t2.p, .int .u8 t2.w, .int .u16 t2.q, .int .u16 t2.m, .int .u16 t2.t, .int .u8 t2.r, .int .u8 t2.l, .int .u8 t2.v, .bool t2.s]) rfl (by kernel_rfl) (by kernel_rfl) (by kernel_rfl) (fun _ _ _ h => h) (Or.inl ⟨by rfl, ?_⟩) (by assumption) ?_
          · (intro W hSw; exact exec_load_row 35 _ rfl w.heap.size rfl _ _ _ _ (HD.out W hSw).2 Try.underlying35 rfl (by kernel_rfl))
          try simp only [heldPut, List.set]
          refine heldOne (i := 12) rfl (by kernel_rfl) (fun K hK => ?_)
          go_simp
          refine (HSM.out _).mono ?_
          rintro _ w11 ⟨B, N, d, rfl, hN, ho11, hb11⟩
          have hb11' : Below w10.heap.size w10 w11 := (Below.refl _ w10).drew.trans hb11
          have HB11 := Lib.hid hb11'
          have HSA := Lib.hid (refSame_any x x A9 3 c9 B N d w11 HX.out.2.symm hN (by decide) (HRD.out _ hb11') (by subst hN; exact RdP.of_own ho11))
          rw [sameI_refl] at HSA
          clear hN ho11 hb11 hb11' HSM HD HRD
          go_wp2_with fail
          refine hK.out _ _ ?_ (fun hHeld => ?_)
          · exact HB11.out
          clear hK K
          try simp only [heldPut, List.set]
          refine heldOne (i := 13) rfl (by kernel_rfl) (fun K hK => ?_)
          go_simp
          refine HSA.out.mono ?_
          rintro _ w12 ⟨rfl, hb12⟩
          have HB12 := Lib.hid (HB11.out.trans (hb12.mono HB11.out.size))
          clear hb12 HSA
          go_wp2_with fail
          refine hK.out _ _ ?_ (fun hHeld => ?_)
          · exact HB12.out
          clear hK K
          try simp only [heldPut, List.set]
          refine heldTake (i := 14) (v := ?_) rfl (by kernel_rfl) (by kernel_rfl) (by kernel_rfl) (fun _ _ _ h => h) (Or.inl ⟨by rfl, ?_⟩) (by assumption) ?_
          rotate_left
          · (intro W hSw; (try dsimp only at hSw); go_simp; try with_reducible rfl)
          try simp only [heldPut, List.set]
          refine heldTake (i := 15) (v := ?_) rfl (by kernel_rfl) (by kernel_rfl) (by kernel_rfl) (fun _ _ _ h => h) (Or.inl ⟨by rfl, ?_⟩) (by assumption) ?_
          rotate_left
          · (intro W hSw; (try dsimp only at hSw); go_simp; try with_reducible rfl)
          try simp only [heldPut, List.set]
          refine wpAnyH_done (by kernel_rfl) ?_ _
          refine NoPanic.normal ?_
          go_wp2
          go_ret
          exact ⟨rfl, HB10.out.trans (HB12.out.mono HB10.out.size)⟩
end Go.Proofs.Ytileaoanekphaaa.recvOwn
