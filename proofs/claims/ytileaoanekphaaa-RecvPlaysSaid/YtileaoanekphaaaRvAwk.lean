/- Layer 11: recv: the document's example (Awake). -/
import Derived.Test.YtileaoanekphaaaRvAck
import Derived.Test.YtileaoanekphaaaItTwo
namespace Go.Proofs.Ytileaoanekphaaa
open Go.RowKit

def zSm : Sm := ⟨false, 0, 0, 0, 0, 0, 0, 0, 0, 0, false⟩
theorem rd_zero {w : World} {B : Nat} {A : Option Addr} {l : List Pr} (h : l.length = 0) : RdP w B A l := fun h0 => absurd h0 (by omega)
theorem only_two_below {w0 w w' : World} {s m : Nat} (hb : Below w0.heap.size w0 w) (ho : Only (Two s m) w w') (hs : w0.heap.size ≤ s) (hm : w0.heap.size ≤ m) : Below w0.heap.size w0 w' :=
  hb.trans (ho.below hb.size (fun k hk => by rcases hk with hk | hk <;> omega))
theorem only_two_row {w w' : World} {s m p : Nat} {o : Obj} (ho : Only (Two s m) w w') (h : w.heap[p]? = some o) (hs : p ≠ s) (hm : p ≠ m) : w'.heap[p]? = some o :=
  (ho.block p (Array.getElem?_eq_some_iff.1 h).1 (fun hk => by rcases hk with hk | hk <;> contradiction)).trans h

set_option maxRecDepth 100000 in
set_option maxHeartbeats 2000000 in
theorem awake11_any (w : World) : Calls Try.prog 7 #[] w fun e w' => e = .returned (.bool true) ∧ Below w.heap.size w w' := by
  obtain ⟨x, hx⟩ : ∃ x, x = smallI zSm := ⟨_, rfl⟩
  have hx0 : itemN x = 0 := by rw [hx]; exact smallI_right zSm (by constructor <;> decide)
  have hxl : x.l.length = 0 := by rw [hx]; rfl
  have HSM : Hid (∀ W, Calls Try.prog 11 #[.agg #[.bool false, .int .u8 0, .int .u8 0, .int .u8 0, .int .u16 0, .int .u16 0, .int .u16 0, .int .u8 0, .int .u8 0, .int .u8 0, .bool false]] W (ItRet x W)) := fun W => by
    rw [hx]
    exact smallItem_any zSm (by constructor <;> decide) W
  have HX := Lib.hid (⟨hx0, hxl⟩ : _ ∧ _)
  clear hx hx0 hxl
  go_enter Try.func7, Try.ntmps7
  go_wp2_with fail
  refine (rnew_any 4 (by decide) (by decide) w).mono ?_
  rintro _ w1 ⟨rfl, hr1, hb1⟩
  obtain ⟨s, hs⟩ : ∃ s, s = w.heap.size + 1 := ⟨_, rfl⟩
  obtain ⟨m, hm⟩ : ∃ m, m = w.heap.size := ⟨_, rfl⟩
  rw [← hs] at hr1 ⊢
  rw [← hm] at hr1
  have HSMN : Hid (w.heap.size ≤ s ∧ w.heap.size ≤ m) := ⟨by omega, by omega⟩
  have HR1 := Lib.hid hr1
  have HB1 := Lib.hid hb1
  clear hr1 hb1 hs hm
  go_wp2_with fail
  refine (HSM.out w1).mono ?_
  rintro _ w2 ⟨A, n, c, rfl, hn, -, hb2⟩
  have hr2 := HR1.out.below hb2
  have HN := Lib.hid hn
  clear hn
  have hbw2 := HB1.out.trans (hb2.mono HB1.out.size)
  go_upto_region 3 with (first | (refine wpList_store_row rfl _ _ _ rfl w2.heap.size #[.bool x.g, .int .u8 x.o, .int .u64 x.q, .int .u64 x.t, .string x.r, .slice A n c, .int .u8 x.s, .int .u8 x.p, .int .i64 x.v, .int .u8 x.w, .int .u8 x.ga, .int .u64 x.gf, .int .u64 x.gt] rfl rfl _ _ (heap_alloc_new _ _) Try.infoIt rfl (by simp [Value.oneCell']) ?_) | fail)
  obtain ⟨w3, hw3, hc3, hb3, hl3⟩ := boxI w2 #[.bool false, .int .u8 0, .int .u64 0, .int .u64 0, .string ⟨#[]⟩, .slice none 0 0, .int .u8 0, .int .u8 0, .int .i64 0, .int .u8 0, .int .u8 0, .int .u64 0, .int .u64 0] #[.bool x.g, .int .u8 x.o, .int .u64 x.q, .int .u64 x.t, .string x.r, .slice A n c, .int .u8 x.s, .int .u8 x.p, .int .i64 x.v, .int .u8 x.w, .int .u8 x.ga, .int .u64 x.gf, .int .u64 x.gt]
  rw [← hw3, act_put_no]
  obtain ⟨p, hp⟩ : ∃ p, p = w2.heap.size := ⟨_, rfl⟩
  rw [← hp] at hc3 hl3 ⊢
  have HPS : Hid (p ≠ s ∧ p ≠ m) := ⟨by have := hr2.slt; omega, by have := hr2.mi.lt; omega⟩
  have hr3 := hr2.below hb3
  have ht3 := rtake_ok (q := 2) (n := 1) (x := x) (A := A) (N := n) (c := c) w3 hr3 rfl (by decide) (by decide) (by decide) (by decide) (by decide) rfl (by decide) HX.out.1 HN.out (fun _ => by rw [HN.out]; exact HX.out.2) (by rw [HN.out, HX.out.2]; decide) (rd_zero HX.out.2)
  have HT3 := Lib.hid ht3
  have HC3 := Lib.hid hc3
  have HB3 := Lib.hid (hbw2.trans (hb3.mono hbw2.size))
  clear hr2 hb2 hbw2 hw3 hc3 hb3 hl3 hp hr3 ht3 HSM HR1 HB1
  go_wp2_with (first
    | (refine wpList_load_row rfl _ _ rfl p rfl _ _ _ _ HC3.out Try.underlying43 rfl (by kernel_rfl) ?_)
    | fail)
  refine HT3.out.mono ?_
  rintro _ w4 ⟨rfl, A4, c4, hr4, -, ho4⟩
  have HAK := Lib.hid (rack_any (n := 1) w4 hr4 rfl (by decide) (by decide) (by decide))
  have hbits : bitsN (heldB (putF (fun _ => none) 2 ⟨x, A4, c4⟩) 1) 3 = 1 := by
    simp [bitsN, heldB, putF]
  have HBI := Lib.hid hbits
  have HR4 := Lib.hid hr4
  have HC4 := Lib.hid (only_two_row ho4 HC3.out HPS.out.1 HPS.out.2)
  have HB4 := Lib.hid (only_two_below HB3.out ho4 HSMN.out.1 HSMN.out.2)
  clear hr4 ho4 hbits HT3 HC3 HB3
  go_wp2_with fail
  refine HAK.out.mono ?_
  rw [show (4 : Nat) - 1 = 3 from rfl, HBI.out]
  rintro _ w5 ⟨rfl, hb5⟩
  have hr5 := HR4.out.below hb5
  have ht5 := rtake_ok (q := 1) (n := 1) (x := x) (A := A) (N := n) (c := c) w5 hr5 rfl (by decide) (by decide) (by decide) (by decide) (by decide) rfl (by decide) HX.out.1 HN.out (fun _ => by rw [HN.out]; exact HX.out.2) (by rw [HN.out, HX.out.2]; decide) (rd_zero HX.out.2)
  have HT5 := Lib.hid ht5
  have HC5 := Lib.hid ((hb5.block _ (Array.getElem?_eq_some_iff.1 HC4.out).1).trans HC4.out)
  have HB5 := Lib.hid (HB4.out.trans (hb5.mono HB4.out.size))
  clear hb5 hr5 ht5 HAK HR4 HC4 HB4 HBI
  go_wp2_with (first
    | (refine wpList_load_row rfl _ _ rfl p rfl _ _ _ _ HC5.out Try.underlying43 rfl (by kernel_rfl) ?_)
    | fail)
  refine HT5.out.mono ?_
  rintro _ w6 ⟨rfl, A6, c6, hr6, -, ho6⟩
  have HPK := Lib.hid (rpeek_some (n := 1) (x := x) (A := A6) (c := c6) w6 hr6 rfl (by decide) rfl)
  have HB6 := Lib.hid (only_two_below HB5.out ho6 HSMN.out.1 HSMN.out.2)
  clear hr6 ho6 HT5 HC5 HB5
  go_wp2_with fail
  refine HPK.out.mono ?_
  rintro _ w7 ⟨A7, c7, rfl, -, hb7⟩
  have HB7 := Lib.hid (HB6.out.trans (hb7.mono HB6.out.size))
  clear hb7 HPK HB6
  go_upto_region 7 with (first | (refine wpList_store_row rfl _ _ _ rfl w7.heap.size #[.bool x.g, .int .u8 x.o, .int .u64 x.q, .int .u64 x.t, .string x.r, .slice A7 x.l.length c7, .int .u8 x.s, .int .u8 x.p, .int .i64 x.v, .int .u8 x.w, .int .u8 x.ga, .int .u64 x.gf, .int .u64 x.gt] rfl rfl _ _ (heap_alloc_new _ _) Try.infoIt rfl (by simp [Value.oneCell']) ?_) | fail)
  obtain ⟨w8, hw8, -, hb8, -⟩ := boxI w7 #[.bool false, .int .u8 0, .int .u64 0, .int .u64 0, .string ⟨#[]⟩, .slice none 0 0, .int .u8 0, .int .u8 0, .int .i64 0, .int .u8 0, .int .u8 0, .int .u64 0, .int .u64 0] #[.bool x.g, .int .u8 x.o, .int .u64 x.q, .int .u64 x.t, .string x.r, .slice A7 x.l.length c7, .int .u8 x.s, .int .u8 x.p, .int .i64 x.v, .int .u8 x.w, .int .u8 x.ga, .int .u64 x.gf, .int .u64 x.gt]
  rw [← hw8]
  have HB8 := Lib.hid (HB7.out.trans (hb8.mono HB7.out.size))
  clear hw8 hb8
  go_wp2
  go_ret
  exact ⟨rfl, HB8.out⟩
end Go.Proofs.Ytileaoanekphaaa
