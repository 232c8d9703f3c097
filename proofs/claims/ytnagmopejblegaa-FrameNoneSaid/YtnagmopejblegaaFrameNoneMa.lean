/- The walk of watchfirelaw05.FrameNone. -/
import Derived.Test.YtnagmopejblegaaMa37
import Derived.Test.YtnagmopejblegaaMa46
import Derived.Test.YtnagmopejblegaaMa47
import Derived.Deep.DeepCutAuto
namespace Go.Proofs.Ytnagmopejblegaa.frameNone
open Go.RowKit Go.Proofs.Ytnagmopejblegaa

set_option maxRecDepth 100000 in
set_option maxHeartbeats 8000000 in
theorem walk (A : Option Addr) (n c : Nat) (s : Sf) (hs : OkSf s) (hc : n ≤ c) (w : World) :
    Calls Try.prog 5 #[.slice A n c, .agg #[.int .u8 s.k, .int .u8 s.f, .int .u8 s.t, .int .u16 s.e, .int .u16 s.q, .int .u16 s.c, .int .u16 s.l, .int .u64 s.b, .bool s.i.g, .int .u8 s.i.o, .int .u8 s.i.p, .int .u8 s.i.w, .int .u16 s.i.q, .int .u16 s.i.m, .int .u16 s.i.t, .int .u8 s.i.r, .int .u8 s.i.l, .int .u8 s.i.v, .bool s.i.s]] w fun e w' => e = .returned (.bool true) ∧ Below w.heap.size w w' := by
  have hba : Below w.heap.size w (w.alloc (.cells #[.int .u8 s.k, .int .u8 s.f, .int .u8 s.t, .int .u16 s.e, .int .u16 s.q, .int .u16 s.c, .int .u16 s.l, .int .u64 s.b, .bool s.i.g, .int .u8 s.i.o, .int .u8 s.i.p, .int .u8 s.i.w, .int .u16 s.i.q, .int .u16 s.i.m, .int .u16 s.i.t, .int .u8 s.i.r, .int .u8 s.i.l, .int .u8 s.i.v, .bool s.i.s] 27)) := (Below.refl _ _).alloc (Nat.le_refl _) _
  have K0 := Lib.hid (heap_alloc_new w (.cells #[.int .u8 s.k, .int .u8 s.f, .int .u8 s.t, .int .u16 s.e, .int .u16 s.q, .int .u16 s.c, .int .u16 s.l, .int .u64 s.b, .bool s.i.g, .int .u8 s.i.o, .int .u8 s.i.p, .int .u8 s.i.w, .int .u16 s.i.q, .int .u16 s.i.m, .int .u16 s.i.t, .int .u8 s.i.r, .int .u8 s.i.l, .int .u8 s.i.v, .bool s.i.s] 27))
  have Hba := Lib.hid hba
  have Hs := Lib.hid hs
  clear hba hs
  go_enter Try.func5, Try.ntmps5
  go_wp2_with fail
  refine (fawake_any _).mono ?_
  rintro e w1 ⟨rfl, hb1⟩
  have K1 := Lib.hid ((hb1.block w.heap.size (by simp)).trans K0.out)
  have Hb1 := Lib.hid (Hba.out.trans (hb1.mono Hba.out.size))
  clear hb1 K0 Hba
  by_cases hn : n > 100
  case pos =>
    go_wp2
    go_ret
    exact ⟨rfl, Hb1.out⟩
  case neg =>
  go_upto_region 6 with (first | (refine wpList_load_row rfl _ _ rfl w.heap.size rfl _ _ _ _ K1.out Try.underlying27 rfl (by kernel_rfl) ?_) | (go_at_call 9; refine (smallF_any s Hs.out _).mono ?_; rintro e w2 ⟨A2, n2, c2, rfl, _, _, hb2⟩; replace hb2 := Lib.hid hb2) | (go_at_call 8; refine (encode_nil _ _ _ _ _).mono ?_; rintro e w3 ⟨rfl, hb3⟩; replace hb3 := Lib.hid hb3) | fail)
  have Hb3 := Lib.hid ((Hb1.out.trans (hb2.out.mono Hb1.out.size)).trans (hb3.out.mono (Hb1.out.trans (hb2.out.mono Hb1.out.size)).size))
  clear hb2 hb3 Hb1 K1
  go_upto_region 7 with (first | (go_at_call 10; refine (fdec_nil _ _).mono ?_; rintro e w4 ⟨rfl, hb4⟩; replace hb4 := Lib.hid hb4) | (refine wpList_store_row rfl _ _ _ rfl w4.heap.size _ rfl rfl _ _ (heap_alloc_new _ _) Try.infoF rfl (by kernel_rfl) ?_) | fail)
  have Hb4 := Lib.hid (Hb3.out.trans (hb4.out.mono Hb3.out.size))
  obtain ⟨w5, hw5⟩ : ∃ V, V = (w4.alloc (.cells #[.int .u8 0, .int .u8 0, .int .u8 0, .int .u64 0, .int .u64 0, .bool false, .int .u8 0, .int .u64 0, .int .u64 0, .string ⟨#[]⟩, .slice none 0 0, .int .u8 0, .int .u8 0, .int .i64 0, .int .u8 0, .int .u8 0, .int .u64 0, .int .u64 0, .int .u64 0, .int .u64 0, .int .u64 0] 44)).setRow w4.heap.size #[.int .u8 0, .int .u8 0, .int .u8 0, .int .u64 0, .int .u64 0, .bool false, .int .u8 0, .int .u64 0, .int .u64 0, .string ⟨#[]⟩, .slice none 0 0, .int .u8 0, .int .u8 0, .int .i64 0, .int .u8 0, .int .u8 0, .int .u64 0, .int .u64 0, .int .u64 0, .int .u64 0, .int .u64 0] := ⟨_, rfl⟩
  rw [← hw5]
  have Hb5 := Lib.hid (show Below w.heap.size w w5 by rw [hw5]; exact below_setRow (Hb4.out.alloc (Hb4.out.size) _) (Hb4.out.size) _)
  clear hw5 Hb4 hb4 Hb3
  obtain ⟨m, hm⟩ : ∃ m : Nat, m = min n 7 := ⟨_, rfl⟩
  have hm7 : m < 8 := by omega
  have hmc : (m : Int) ≤ c := by omega
  have hmn : min (n : Int) 7 = m := by omega
  have Hm := Lib.hid hm
  clear hm
  refine wp_region_noPanic ?_
  refine wp_region_held_drew (S := (fun V : World => Below w5.heap.size w5 V)) (by kernel_rfl) ?_ (fun hHeld => ?_)
  · exact (Below.refl _ _).drew
  have hz0 : w5.heap.size ≤ w5.drew.heap.size := Nat.le_refl _
  generalize hw6 : w5.drew = w6 at *
  clear hw6
  refine heldTake (i := 1) (v := ?_) rfl (by kernel_rfl) (by kernel_rfl) (by kernel_rfl) (fun _ _ _ h => h) (Or.inl ⟨by rfl, ?_⟩) (by assumption) ?_
  rotate_left
  · (intro w hSw; (try dsimp only at hSw); go_simp; try with_reducible rfl)
  try simp only [heldPut, List.set]
  refine heldTake (i := 2) (v := ?_) rfl (by kernel_rfl) (by kernel_rfl) (by kernel_rfl) (fun _ _ _ h => h) (Or.inl ⟨by rfl, ?_⟩) (by assumption) ?_
  rotate_left
  · (intro w hSw; (try dsimp only at hSw); go_simp; try with_reducible rfl)
  try simp only [heldPut, List.set]
  refine heldTake (i := 3) (v := ?_) rfl (by kernel_rfl) (by kernel_rfl) (by kernel_rfl) (fun _ _ _ h => h) (Or.inl ⟨by rfl, ?_⟩) (by assumption) ?_
  rotate_left
  · (intro w hSw; (try dsimp only at hSw); go_simp; try with_reducible rfl)
  try simp only [heldPut, List.set]
  refine heldTake (i := 4) (v := ?_) rfl (by kernel_rfl) (by kernel_rfl) (by kernel_rfl) (fun _ _ _ h => h) (Or.inl ⟨by rfl, ?_⟩) (by assumption) ?_
  rotate_left
  · (intro w hSw; (try dsimp only at hSw); go_simp; try with_reducible rfl)
  try simp only [heldPut, List.set]
  refine heldTake (i := 5) (v := ?_) rfl (by kernel_rfl) (by kernel_rfl) (by kernel_rfl) (fun _ _ _ h => h) (Or.inl ⟨by rfl, ?_⟩) (by assumption) ?_
  rotate_left
  · (intro w hSw; (try dsimp only at hSw); go_simp; try with_reducible rfl)
  try simp only [heldPut, List.set]
  refine heldTwo (i := 0) (j := 10) rfl rfl (by kernel_rfl) (fun K hK => ?g1_0) (fun K hK => ?g1_10)
  case' g1_0 =>
    go_simp
    refine (new_any _).mono ?_
    rintro e V2 ⟨rfl, hb2, -, -⟩
    go_wp2_with fail
    refine hK.out _ _ ?_ (fun hh2 => ?_)
    · exact (hHeld.trans (hb2.mono (hHeld.size)))
    clear hK K
    try simp only [heldPut, List.set]
    have hz2 := hb2.size
    clear hb2
    refine heldTwo (i := 6) (j := 10) rfl rfl (by kernel_rfl) (fun K hK => ?g3_6) (fun K hK => ?g3_10)
    case' g3_6 =>
      go_simp
      refine (fdec_short _ _ m _ hm7 _).mono ?_
      rintro e V4 ⟨rfl, hb4⟩
      go_wp2_with fail
      refine hK.out _ _ ?_ (fun hh4 => ?_)
      · exact (hh2.trans (hb4.mono (hh2.size)))
      clear hK K
      try simp only [heldPut, List.set]
      have hz4 := hb4.size
      clear hb4
      refine heldTake (i := 7) (v := ?_) rfl (by kernel_rfl) (by kernel_rfl) (by kernel_rfl) (fun _ _ _ h => h) (Or.inl ⟨by rfl, ?_⟩) (by assumption) ?_
      rotate_left
      · (intro w hSw; (try dsimp only at hSw); go_simp; try with_reducible rfl)
      try simp only [heldPut, List.set]
      refine heldTake (i := 8) (v := ?_) rfl (by kernel_rfl) (by kernel_rfl) (by kernel_rfl) (fun _ _ _ h => h) (Or.inl ⟨by rfl, ?_⟩) (by assumption) ?_
      rotate_left
      · (intro w hSw; (try dsimp only at hSw); go_simp; try with_reducible rfl)
      try simp only [heldPut, List.set]
      refine heldTake (i := 9) (v := ?_) rfl (by kernel_rfl) (by kernel_rfl) (by kernel_rfl) (fun _ _ _ h => h) (Or.inl ⟨by rfl, ?_⟩) (by assumption) ?_
      rotate_left
      · (intro w hSw; (try dsimp only at hSw); go_simp; try with_reducible rfl)
      try simp only [heldPut, List.set]
      refine heldOne (i := 10) rfl (by kernel_rfl) (fun K hK => ?_)
      have hb6 : Below V4.heap.size V4 (V4.alloc (.cells #[.int .u8 0, .int .u8 0, .int .u8 0, .int .u64 0, .int .u64 0, .bool false, .int .u8 0, .int .u64 0, .int .u64 0, .string ⟨#[]⟩, .slice none 0 0, .int .u8 0, .int .u8 0, .int .i64 0, .int .u8 0, .int .u8 0, .int .u64 0, .int .u64 0, .int .u64 0, .int .u64 0, .int .u64 0] 44)) := (Below.refl _ _).alloc (Nat.le_refl _) _
      go_simp
      refine hK.out _ _ ?_ (fun hh6 => ?_)
      · exact (hh4.trans (hb6.mono (hh4.size)))
      clear hK K
      try simp only [heldPut, List.set]
      have hc6 : CellsF (V4.alloc (.cells #[.int .u8 0, .int .u8 0, .int .u8 0, .int .u64 0, .int .u64 0, .bool false, .int .u8 0, .int .u64 0, .int .u64 0, .string ⟨#[]⟩, .slice none 0 0, .int .u8 0, .int .u8 0, .int .i64 0, .int .u8 0, .int .u8 0, .int .u64 0, .int .u64 0, .int .u64 0, .int .u64 0, .int .u64 0] 44)) V4.heap.size 44 := CellsF.new _ _ _ rfl
      generalize hV6 : V4.alloc (.cells #[.int .u8 0, .int .u8 0, .int .u8 0, .int .u64 0, .int .u64 0, .bool false, .int .u8 0, .int .u64 0, .int .u64 0, .string ⟨#[]⟩, .slice none 0 0, .int .u8 0, .int .u8 0, .int .i64 0, .int .u8 0, .int .u8 0, .int .u64 0, .int .u64 0, .int .u64 0, .int .u64 0, .int .u64 0] 44) = V6 at *
      refine heldMore (S2 := (fun V : World => Below w5.heap.size w5 V ∧ CellsF V V4.heap.size 44)) (fun _ h => h.1) ?_
      have hh6' : (fun V : World => Below w5.heap.size w5 V ∧ CellsF V V4.heap.size 44) V6 := ⟨hh6, hc6⟩
      clear hV6 hb6 hh6 hc6
      refine heldOne (i := 11) rfl (by kernel_rfl) (fun K hK => ?_)
      rw [if_pos (by rfl)]
      obtain ⟨cs8, hcs8, hsz8⟩ := hh6'.2
      refine wp_store_row _ _ _ rfl (V4.heap.size) _ rfl rfl _ _ hcs8 Try.infoF hsz8 (by simp [Value.oneCell']) ?_
      have hle8 : w5.heap.size ≤ V4.heap.size := by omega
      refine hK.out _ _ ?_ (fun hh8 => ?_)
      · exact ⟨(below_setRow hh6'.1 (by omega) _), (hh6'.2.same _ rfl)⟩
      clear hK K
      refine heldOne (i := 12) rfl (by kernel_rfl) (fun K hK => ?_)
      go_simp
      refine hK.out _ _ ?_ (fun hh10 => ?_)
      · exact hh8
      clear hK K
      try simp only [heldPut, List.set]
      refine wpAnyH_done (by kernel_rfl) ?_ _
      refine NoPanic.normal ?_
      go_wp2
      go_ret
      exact ⟨rfl, Hb5.out.trans (hh10.1.mono Hb5.out.size)⟩
    case' g3_10 =>
      have hb11 : Below V2.heap.size V2 (V2.alloc (.cells #[.int .u8 0, .int .u8 0, .int .u8 0, .int .u64 0, .int .u64 0, .bool false, .int .u8 0, .int .u64 0, .int .u64 0, .string ⟨#[]⟩, .slice none 0 0, .int .u8 0, .int .u8 0, .int .i64 0, .int .u8 0, .int .u8 0, .int .u64 0, .int .u64 0, .int .u64 0, .int .u64 0, .int .u64 0] 44)) := (Below.refl _ _).alloc (Nat.le_refl _) _
      go_simp
      refine hK.out _ _ ?_ (fun hh11 => ?_)
      · exact (hh2.trans (hb11.mono (hh2.size)))
      clear hK K
      try simp only [heldPut, List.set]
      have hc11 : CellsF (V2.alloc (.cells #[.int .u8 0, .int .u8 0, .int .u8 0, .int .u64 0, .int .u64 0, .bool false, .int .u8 0, .int .u64 0, .int .u64 0, .string ⟨#[]⟩, .slice none 0 0, .int .u8 0, .int .u8 0, .int .i64 0, .int .u8 0, .int .u8 0, .int .u64 0, .int .u64 0, .int .u64 0, .int .u64 0, .int .u64 0] 44)) V2.heap.size 44 := CellsF.new _ _ _ rfl
      generalize hV11 : V2.alloc (.cells #[.int .u8 0, .int .u8 0, .int .u8 0, .int .u64 0, .int .u64 0, .bool false, .int .u8 0, .int .u64 0, .int .u64 0, .string ⟨#[]⟩, .slice none 0 0, .int .u8 0, .int .u8 0, .int .i64 0, .int .u8 0, .int .u8 0, .int .u64 0, .int .u64 0, .int .u64 0, .int .u64 0, .int .u64 0] 44) = V11 at *
      refine heldMore (S2 := (fun V : World => Below w5.heap.size w5 V ∧ CellsF V V2.heap.size 44)) (fun _ h => h.1) ?_
      have hh11' : (fun V : World => Below w5.heap.size w5 V ∧ CellsF V V2.heap.size 44) V11 := ⟨hh11, hc11⟩
      clear hV11 hb11 hh11 hc11
      refine heldOne (i := 6) rfl (by kernel_rfl) (fun K hK => ?_)
      go_simp
      refine (fdec_short _ _ m _ hm7 _).mono ?_
      rintro e V13 ⟨rfl, hb13⟩
      go_wp2_with fail
      refine hK.out _ _ ?_ (fun hh13 => ?_)
      · exact ⟨(hh11'.1.trans (hb13.mono (hh11'.1.size))), (hh11'.2.below hb13)⟩
      clear hK K
      try simp only [heldPut, List.set]
      have hz13 := hb13.size
      clear hb13
      refine heldTake (i := 7) (v := ?_) rfl (by kernel_rfl) (by kernel_rfl) (by kernel_rfl) (fun _ _ _ h => h) (Or.inl ⟨by rfl, ?_⟩) (by assumption) ?_
      rotate_left
      · (intro w hSw; (try dsimp only at hSw); go_simp; try with_reducible rfl)
      try simp only [heldPut, List.set]
      refine heldTake (i := 8) (v := ?_) rfl (by kernel_rfl) (by kernel_rfl) (by kernel_rfl) (fun _ _ _ h => h) (Or.inl ⟨by rfl, ?_⟩) (by assumption) ?_
      rotate_left
      · (intro w hSw; (try dsimp only at hSw); go_simp; try with_reducible rfl)
      try simp only [heldPut, List.set]
      refine heldTake (i := 9) (v := ?_) rfl (by kernel_rfl) (by kernel_rfl) (by kernel_rfl) (fun _ _ _ h => h) (Or.inl ⟨by rfl, ?_⟩) (by assumption) ?_
      rotate_left
      · (intro w hSw; (try dsimp only at hSw); go_simp; try with_reducible rfl)
      try simp only [heldPut, List.set]
      refine heldOne (i := 11) rfl (by kernel_rfl) (fun K hK => ?_)
      rw [if_pos (by rfl)]
      obtain ⟨cs15, hcs15, hsz15⟩ := hh13.2
      refine wp_store_row _ _ _ rfl (V2.heap.size) _ rfl rfl _ _ hcs15 Try.infoF hsz15 (by simp [Value.oneCell']) ?_
      have hle15 : w5.heap.size ≤ V2.heap.size := by omega
      refine hK.out _ _ ?_ (fun hh15 => ?_)
      · exact ⟨(below_setRow hh13.1 (by omega) _), (hh13.2.same _ rfl)⟩
      clear hK K
      refine heldOne (i := 12) rfl (by kernel_rfl) (fun K hK => ?_)
      go_simp
      refine hK.out _ _ ?_ (fun hh17 => ?_)
      · exact hh15
      clear hK K
      try simp only [heldPut, List.set]
      refine wpAnyH_done (by kernel_rfl) ?_ _
      refine NoPanic.normal ?_
      go_wp2
      go_ret
      exact ⟨rfl, Hb5.out.trans (hh17.1.mono Hb5.out.size)⟩
  case' g1_10 =>
    have hb18 : Below w6.heap.size w6 (w6.alloc (.cells #[.int .u8 0, .int .u8 0, .int .u8 0, .int .u64 0, .int .u64 0, .bool false, .int .u8 0, .int .u64 0, .int .u64 0, .string ⟨#[]⟩, .slice none 0 0, .int .u8 0, .int .u8 0, .int .i64 0, .int .u8 0, .int .u8 0, .int .u64 0, .int .u64 0, .int .u64 0, .int .u64 0, .int .u64 0] 44)) := (Below.refl _ _).alloc (Nat.le_refl _) _
    go_simp
    refine hK.out _ _ ?_ (fun hh18 => ?_)
    · exact (hHeld.trans (hb18.mono (hHeld.size)))
    clear hK K
    try simp only [heldPut, List.set]
    have hc18 : CellsF (w6.alloc (.cells #[.int .u8 0, .int .u8 0, .int .u8 0, .int .u64 0, .int .u64 0, .bool false, .int .u8 0, .int .u64 0, .int .u64 0, .string ⟨#[]⟩, .slice none 0 0, .int .u8 0, .int .u8 0, .int .i64 0, .int .u8 0, .int .u8 0, .int .u64 0, .int .u64 0, .int .u64 0, .int .u64 0, .int .u64 0] 44)) w6.heap.size 44 := CellsF.new _ _ _ rfl
    generalize hV18 : w6.alloc (.cells #[.int .u8 0, .int .u8 0, .int .u8 0, .int .u64 0, .int .u64 0, .bool false, .int .u8 0, .int .u64 0, .int .u64 0, .string ⟨#[]⟩, .slice none 0 0, .int .u8 0, .int .u8 0, .int .i64 0, .int .u8 0, .int .u8 0, .int .u64 0, .int .u64 0, .int .u64 0, .int .u64 0, .int .u64 0] 44) = V18 at *
    refine heldMore (S2 := (fun V : World => Below w5.heap.size w5 V ∧ CellsF V w6.heap.size 44)) (fun _ h => h.1) ?_
    have hh18' : (fun V : World => Below w5.heap.size w5 V ∧ CellsF V w6.heap.size 44) V18 := ⟨hh18, hc18⟩
    clear hV18 hb18 hh18 hc18
    refine heldOne (i := 0) rfl (by kernel_rfl) (fun K hK => ?_)
    go_simp
    refine (new_any _).mono ?_
    rintro e V20 ⟨rfl, hb20, -, -⟩
    go_wp2_with fail
    refine hK.out _ _ ?_ (fun hh20 => ?_)
    · exact ⟨(hh18'.1.trans (hb20.mono (hh18'.1.size))), (hh18'.2.below hb20)⟩
    clear hK K
    try simp only [heldPut, List.set]
    have hz20 := hb20.size
    clear hb20
    refine heldOne (i := 6) rfl (by kernel_rfl) (fun K hK => ?_)
    go_simp
    refine (fdec_short _ _ m _ hm7 _).mono ?_
    rintro e V22 ⟨rfl, hb22⟩
    go_wp2_with fail
    refine hK.out _ _ ?_ (fun hh22 => ?_)
    · exact ⟨(hh20.1.trans (hb22.mono (hh20.1.size))), (hh20.2.below hb22)⟩
    clear hK K
    try simp only [heldPut, List.set]
    have hz22 := hb22.size
    clear hb22
    refine heldTake (i := 7) (v := ?_) rfl (by kernel_rfl) (by kernel_rfl) (by kernel_rfl) (fun _ _ _ h => h) (Or.inl ⟨by rfl, ?_⟩) (by assumption) ?_
    rotate_left
    · (intro w hSw; (try dsimp only at hSw); go_simp; try with_reducible rfl)
    try simp only [heldPut, List.set]
    refine heldTake (i := 8) (v := ?_) rfl (by kernel_rfl) (by kernel_rfl) (by kernel_rfl) (fun _ _ _ h => h) (Or.inl ⟨by rfl, ?_⟩) (by assumption) ?_
    rotate_left
    · (intro w hSw; (try dsimp only at hSw); go_simp; try with_reducible rfl)
    try simp only [heldPut, List.set]
    refine heldTake (i := 9) (v := ?_) rfl (by kernel_rfl) (by kernel_rfl) (by kernel_rfl) (fun _ _ _ h => h) (Or.inl ⟨by rfl, ?_⟩) (by assumption) ?_
    rotate_left
    · (intro w hSw; (try dsimp only at hSw); go_simp; try with_reducible rfl)
    try simp only [heldPut, List.set]
    refine heldOne (i := 11) rfl (by kernel_rfl) (fun K hK => ?_)
    rw [if_pos (by rfl)]
    obtain ⟨cs24, hcs24, hsz24⟩ := hh22.2
    refine wp_store_row _ _ _ rfl (w6.heap.size) _ rfl rfl _ _ hcs24 Try.infoF hsz24 (by simp [Value.oneCell']) ?_
    have hle24 : w5.heap.size ≤ w6.heap.size := by omega
    refine hK.out _ _ ?_ (fun hh24 => ?_)
    · exact ⟨(below_setRow hh22.1 (by omega) _), (hh22.2.same _ rfl)⟩
    clear hK K
    refine heldOne (i := 12) rfl (by kernel_rfl) (fun K hK => ?_)
    go_simp
    refine hK.out _ _ ?_ (fun hh26 => ?_)
    · exact hh24
    clear hK K
    try simp only [heldPut, List.set]
    refine wpAnyH_done (by kernel_rfl) ?_ _
    refine NoPanic.normal ?_
    go_wp2
    go_ret
    exact ⟨rfl, Hb5.out.trans (hh26.1.mono Hb5.out.size)⟩
end Go.Proofs.Ytnagmopejblegaa.frameNone
