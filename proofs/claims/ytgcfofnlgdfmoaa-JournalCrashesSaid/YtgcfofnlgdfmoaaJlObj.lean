/- Layer 7: a journal: its methods, and Open where there is no file. -/
import Derived.Test.YtgcfofnlgdfmoaaJlScan
import Derived.Test.YtgcfofnlgdfmoaaDkAppErr
import Derived.Test.YtgcfofnlgdfmoaaDkRead
import Derived.Test.YtgcfofnlgdfmoaaDkOps
namespace Go.Proofs.Ytgcfofnlgdfmoaa
open Go.RowKit Go.Maps

theorem TurnsIn.only {w w' : World} {g : Nat} {P : Nat → Prop} (h : TurnsIn w w' g P) : Only (fun k => k = g) w w' := ⟨h.grown.os, h.grown.tape, h.grown.output, h.grown.size, fun k hk hne => h.grown.block k hk (fun e => hne (by injection e))⟩
theorem Tab.only {w w' : World} {g d s b : Nat} {T : Nat → Prop} (h : Tab w g d s b) (ho : Only T w w') (hT : ¬ T g) : Tab w' g d s b :=
  { lt := Nat.lt_of_lt_of_le h.lt ho.size
    c0 := (ho.cell (p := ⟨g, 0, none⟩) h.lt hT).trans h.c0
    c1 := (ho.cell (p := ⟨g, 1, none⟩) h.lt hT).trans h.c1
    tab := fun j hj => by
      obtain ⟨x, hx, hx2⟩ := h.tab j hj
      exact ⟨x, (ho.cell (p := ⟨g, 3 + j, none⟩) h.lt hT).trans hx, hx2⟩
    sums := (ho.cell (p := ⟨g, 259, none⟩) h.lt hT).trans h.sums
    bytes := (ho.cell (p := ⟨g, 260, none⟩) h.lt hT).trans h.bytes
    fz := fun o => (ho.frozen (p := ⟨g, o, none⟩) h.lt hT).trans (h.fz o) }
/-- a journal's block -/
structure JAt (w : World) (jb gd g : Nat) (s : ByteArray) : Prop where
  lt : jb < w.heap.size
  c0 : w.cell? ⟨jb, 0, none⟩ = some (.pointer (some ⟨gd, 0, none⟩))
  c1 : w.cell? ⟨jb, 1, none⟩ = some (.pointer (some ⟨g, 0, none⟩))
  c2 : w.cell? ⟨jb, 2, none⟩ = some (.string s)
theorem JAt.only {w w' : World} {jb gd g : Nat} {s : ByteArray} {T : Nat → Prop} (h : JAt w jb gd g s) (ho : Only T w w') (hT : ¬ T jb) : JAt w' jb gd g s :=
  ⟨Nat.lt_of_lt_of_le h.lt ho.size, (ho.cell (p := ⟨jb, 0, none⟩) h.lt hT).trans h.c0, (ho.cell (p := ⟨jb, 1, none⟩) h.lt hT).trans h.c1, (ho.cell (p := ⟨jb, 2, none⟩) h.lt hT).trans h.c2⟩
theorem JAt.below {w w' : World} {jb gd g : Nat} {s : ByteArray} (h : JAt w jb gd g s) (hb : Below w.heap.size w w') : JAt w' jb gd g s := h.only (Only.of_below hb fun _ => False) (fun h => h)

set_option maxRecDepth 100000 in
set_option maxHeartbeats 400000 in
theorem jappend_nil (w : World) (v : Value) :
    Calls Try.prog 13 #[.pointer none, v] w fun e w' => e = .returned (.int .i64 1) ∧ w = w' := by
  go_enter Try.func13, Try.ntmps13
  go_wp2
  go_ret
  exact ⟨rfl, rfl⟩
set_option maxRecDepth 100000 in
set_option maxHeartbeats 400000 in
theorem jsync_nil (w : World) :
    Calls Try.prog 14 #[.pointer none] w fun e w' => e = .returned (.int .i64 1) ∧ w = w' := by
  go_enter Try.func14, Try.ntmps14
  go_wp2
  go_ret
  exact ⟨rfl, rfl⟩
set_option maxRecDepth 100000 in
set_option maxHeartbeats 400000 in
theorem jsize_nil (w : World) :
    Calls Try.prog 17 #[.pointer none] w fun e w' => e = .returned (.int .i64 0) ∧ w = w' := by
  go_enter Try.func17, Try.ntmps17
  go_wp2
  go_ret
  exact ⟨rfl, rfl⟩
set_option maxRecDepth 100000 in
set_option maxHeartbeats 400000 in
theorem jname_nil (w : World) :
    Calls Try.prog 18 #[.pointer none] w fun e w' => e = .returned (.string ⟨#[]⟩) ∧ w = w' := by
  go_enter Try.func18, Try.ntmps18
  go_wp2
  go_ret
  exact ⟨rfl, rfl⟩
set_option maxRecDepth 100000 in
set_option maxHeartbeats 400000 in
theorem jopen_nil1 (p : Value) (s : ByteArray) (w : World) :
    Calls Try.prog 11 #[.pointer none, p, .string s] w fun e w' => e = .returned (.tuple #[.pointer none, .slice none 0 0, .int .i64 1]) ∧ w = w' := by
  go_enter Try.func11, Try.ntmps11
  go_wp2
  go_ret3
  exact ⟨rfl, rfl⟩
set_option maxRecDepth 100000 in
set_option maxHeartbeats 400000 in
theorem jopen_nil2 (a : Addr) (s : ByteArray) (w : World) :
    Calls Try.prog 11 #[.pointer (some a), .pointer none, .string s] w fun e w' => e = .returned (.tuple #[.pointer none, .slice none 0 0, .int .i64 1]) ∧ w = w' := by
  go_enter Try.func11, Try.ntmps11
  go_wp2
  go_ret3
  exact ⟨rfl, rfl⟩
set_option maxRecDepth 100000 in
set_option maxHeartbeats 400000 in
theorem jopen_none {S : Nat → Prop} {gd g : Nat} {L : List (ByteArray × Fl)} {wr0 sy : Nat} (s : ByteArray) (w : World) (h : Disk w S gd L wr0 sy) (hs : s.size ≤ maxLen) (hf : findP L s = none) :
    Calls Try.prog 11 #[.pointer (some ⟨gd, 0, none⟩), .pointer (some ⟨g, 0, none⟩), .string s] w fun e w' => ∃ jb, e = .returned (.tuple #[.pointer (some ⟨jb, 0, none⟩), .slice none 0 0, .int .i64 0]) ∧ jb = w.heap.size ∧ JAt w' jb gd g s ∧ Below w.heap.size w w' := by
  have hb1 : Below w.heap.size w (w.alloc (.cells #[.pointer (some ⟨gd, 0, none⟩), .pointer (some ⟨g, 0, none⟩), .string s] 114)) := (Below.refl _ _).alloc (Nat.le_refl _) _
  have hR := read_none _ (h.below hb1) hs hf
  have hj : JAt (w.alloc (.cells #[.pointer (some ⟨gd, 0, none⟩), .pointer (some ⟨g, 0, none⟩), .string s] 114)) w.heap.size gd g s :=
    ⟨by simp, by rw [World.cell?_alloc_at _ _ _ _ rfl]; rfl, by rw [World.cell?_alloc_at _ _ _ _ rfl]; rfl, by rw [World.cell?_alloc_at _ _ _ _ rfl]; rfl⟩
  have HR := Lib.hid hR
  have HJ := Lib.hid hj
  have HB := Lib.hid hb1
  clear h hs hf hR hj hb1
  go_enter Try.func11, Try.ntmps11
  go_wp2_with fail
  refine HR.out.mono ?_
  rintro e w2 ⟨rfl, hb2⟩
  have HJ2 := Lib.hid (HJ.out.below hb2)
  have HB2 := Lib.hid (HB.out.trans (hb2.mono HB.out.size))
  clear hb2
  go_wp2
  go_ret3
  exact ⟨_, rfl, rfl, HJ2.out, HB2.out⟩

set_option maxRecDepth 100000 in
set_option maxHeartbeats 400000 in
theorem jname_any {jb gd g : Nat} {s : ByteArray} (w : World) (h : JAt w jb gd g s) :
    Calls Try.prog 18 #[.pointer (some ⟨jb, 0, none⟩)] w fun e w' => e = .returned (.string s) ∧ w = w' := by
  have j2 := h.c2
  clear h
  go_enter Try.func18, Try.ntmps18
  go_wp2
  go_ret
  exact ⟨rfl, rfl⟩

set_option maxRecDepth 100000 in
set_option maxHeartbeats 1000000 in
/-- Append where the record is too long -/
theorem jappend_long {jb gd g : Nat} {s : ByteArray} (A : Option Addr) (n c : Nat) (hn : 524288 < n) (w : World) (h : JAt w jb gd g s) :
    Calls Try.prog 13 #[.pointer (some ⟨jb, 0, none⟩), .slice A n c] w fun e w' => e = .returned (.int .i64 4) ∧ w = w' := by
  have j1 := h.c1
  have hL := Lib.hid (jlay_long ⟨g, 0, none⟩ A n c hn w)
  clear h hn
  go_enter Try.func13, Try.ntmps13
  go_wp2_with fail
  refine hL.out.mono ?_
  rintro e w1 ⟨rfl, rfl⟩
  go_wp2
  go_ret
  exact ⟨rfl, rfl⟩

set_option maxRecDepth 100000 in
set_option maxHeartbeats 2000000 in
/-- Append where the record is laid: what the disk answers is what it answers; the record is new -/
theorem jappend_any {jb gd g d t b : Nat} {s : ByteArray} (hd : d ≤ 1) (A : Option Addr) (n c : Nat) (l : List Nat) (B : Nat) (w : World) (h : JAt w jb gd g s) (hjg : jb ≠ g) (hT : Tab w g d t b) (hn : n = l.length) (hm : n ≤ 524288) (hs : t < 1000000000) (hbn : b < 1000000000000) (hr : RdB w B A l) (hB : B ≤ w.heap.size) (hok : OkB l) (hoff : Off A g l)
    (Z : Int) (Q : World → World → Prop) (hD : ∀ (v : Value) (w1 : World), w1.ownsRow w.heap.size 5 1 v (n + 8) (cellsB (laidR l)) → TurnsIn w w1 g (fun _ => True) → Tab w1 g 1 (t + 1) (b + 4 + n) → JAt w1 jb gd g s →
      Calls Try.prog 42 #[.pointer (some ⟨gd, 0, none⟩), .string s, v] w1 fun e w' => e = .returned (.int .i64 Z) ∧ (JAt w' jb gd g s ∧ Q w1 w')) :
    Calls Try.prog 13 #[.pointer (some ⟨jb, 0, none⟩), .slice A n c] w fun e w' => e = .returned (.int .i64 Z) ∧ ∃ w1, TurnsIn w w1 g (fun _ => True) ∧ Tab w1 g 1 (t + 1) (b + 4 + n) ∧ JAt w' jb gd g s ∧ Q w1 w' := by
  have j1 := h.c1
  have HJ := Lib.hid h
  have hL := Lib.hid (jlay_any g d t b hd A n c l B w hT hn hm hs hbn hr hB hok hoff)
  have HD := Lib.hid hD
  clear h hT hn hr hok hoff hD hs hbn
  go_enter Try.func13, Try.ntmps13
  go_wp2_with fail
  refine hL.out.mono ?_
  rintro e w1 ⟨v, rfl, ho, ht, hT1⟩
  have HO := Lib.hid ho
  have Ht := Lib.hid ht
  have HT1 := Lib.hid hT1
  have HJ1 := Lib.hid (HJ.out.only ht.only hjg)
  clear ho ht hT1 j1
  have j0 := HJ1.out.c0
  have j1 := HJ1.out.c1
  have j2 := HJ1.out.c2
  have HDd := Lib.hid (HD.out v w1.drew (ownB_below HO.out (Below.refl _ _).drew) Ht.out.drew HT1.out.drew (HJ1.out.below (Below.refl _ _).drew))
  go_upto_region 6 with fail
  refine wp_region_noPanic ?_
  refine wp_region_held_drew (S := fun W => W.cell? ⟨jb, 0, none⟩ = some (.pointer (some ⟨gd, 0, none⟩)) ∧ W.cell? ⟨jb, 1, none⟩ = some (.pointer (some ⟨g, 0, none⟩)) ∧ W.cell? ⟨jb, 2, none⟩ = some (.string s)) (by kernel_rfl) ?_ (fun hHeld => ?_)
  · exact ⟨j0, j1, j2⟩
  try simp only [heldPut, List.set]
  refine heldTake (i := 0) (v := ?_) rfl (by kernel_rfl) (by kernel_rfl) (by kernel_rfl) (fun _ _ _ h => h) (Or.inl ⟨by rfl, ?_⟩) (by assumption) ?_
  rotate_left
  · (intro W hSw; (try dsimp only at hSw); obtain ⟨f0, f1, f2⟩ := hSw; go_simp; try with_reducible rfl)
  try simp only [heldPut, List.set]
  refine heldTake (i := 1) (v := ?_) rfl (by kernel_rfl) (by kernel_rfl) (by kernel_rfl) (fun _ _ _ h => h) (Or.inl ⟨by rfl, ?_⟩) (by assumption) ?_
  rotate_left
  · (intro W hSw; (try dsimp only at hSw); obtain ⟨f0, f1, f2⟩ := hSw; go_simp; try with_reducible rfl)
  try simp only [heldPut, List.set]
  refine heldTake (i := 2) (v := ?_) rfl (by kernel_rfl) (by kernel_rfl) (by kernel_rfl) (fun _ _ _ h => h) (Or.inl ⟨by rfl, ?_⟩) (by assumption) ?_
  rotate_left
  · (intro W hSw; (try dsimp only at hSw); obtain ⟨f0, f1, f2⟩ := hSw; go_simp; try with_reducible rfl)
  try simp only [heldPut, List.set]
  refine heldTake (i := 3) (v := ?_) rfl (by kernel_rfl) (by kernel_rfl) (by kernel_rfl) (fun _ _ _ h => h) (Or.inl ⟨by rfl, ?_⟩) (by assumption) ?_
  rotate_left
  · (intro W hSw; (try dsimp only at hSw); obtain ⟨f0, f1, f2⟩ := hSw; go_simp; try with_reducible rfl)
  try simp only [heldPut, List.set]
  refine heldTake (i := 4) (v := ?_) rfl (by kernel_rfl) (by kernel_rfl) (by kernel_rfl) (fun _ _ _ h => h) (Or.inl ⟨by rfl, ?_⟩) (by assumption) ?_
  rotate_left
  · (intro W hSw; (try dsimp only at hSw); obtain ⟨f0, f1, f2⟩ := hSw; go_simp; try with_reducible rfl)
  try simp only [heldPut, List.set]
  refine heldTake (i := 5) (v := ?_) rfl (by kernel_rfl) (by kernel_rfl) (by kernel_rfl) (fun _ _ _ h => h) (Or.inl ⟨by rfl, ?_⟩) (by assumption) ?_
  rotate_left
  · (intro W hSw; (try dsimp only at hSw); obtain ⟨f0, f1, f2⟩ := hSw; go_simp; try with_reducible rfl)
  try simp only [heldPut, List.set]
  refine heldTake (i := 6) (v := ?_) rfl (by kernel_rfl) (by kernel_rfl) (by kernel_rfl) (fun _ _ _ h => h) (Or.inl ⟨by rfl, ?_⟩) (by assumption) ?_
  rotate_left
  · (intro W hSw; (try dsimp only at hSw); obtain ⟨f0, f1, f2⟩ := hSw; go_simp; try with_reducible rfl)
  try simp only [heldPut, List.set]
  refine heldTake (i := 7) (v := ?_) rfl (by kernel_rfl) (by kernel_rfl) (by kernel_rfl) (fun _ _ _ h => h) (Or.inl ⟨by rfl, ?_⟩) (by assumption) ?_
  rotate_left
  · (intro W hSw; (try dsimp only at hSw); obtain ⟨f0, f1, f2⟩ := hSw; go_simp; try with_reducible rfl)
  try simp only [heldPut, List.set]
  refine heldTake (i := 8) (v := ?_) rfl (by kernel_rfl) (by kernel_rfl) (by kernel_rfl) (fun _ _ _ h => h) (Or.inl ⟨by rfl, ?_⟩) (by assumption) ?_
  rotate_left
  · (intro W hSw; (try dsimp only at hSw); obtain ⟨f0, f1, f2⟩ := hSw; go_simp; try with_reducible rfl)
  try simp only [heldPut, List.set]
  refine heldOne (i := 9) rfl (by kernel_rfl) (fun K hK => ?_)
  go_simp
  refine HDd.out.mono ?_
  rintro e w2 ⟨rfl, hq⟩
  have Hq := Lib.hid hq
  clear hq
  go_wp2_with fail
  refine hK.out _ _ ?_ (fun hHeld => ?_)
  · exact ⟨Hq.out.1.c0, Hq.out.1.c1, Hq.out.1.c2⟩
  clear hK K
  try simp only [heldPut, List.set]
  refine heldTake (i := 10) (v := ?_) rfl (by kernel_rfl) (by kernel_rfl) (by kernel_rfl) (fun _ _ _ h => h) (Or.inl ⟨by rfl, ?_⟩) (by assumption) ?_
  rotate_left
  · (intro W hSw; (try dsimp only at hSw);  go_simp; try with_reducible rfl)
  try simp only [heldPut, List.set]
  refine wpAnyH_done (by kernel_rfl) ?_ _
  refine NoPanic.normal ?_
  go_wp2
  go_ret
  exact ⟨rfl, w1.drew, Ht.out.drew, HT1.out.drew, Hq.out.1, Hq.out.2⟩

set_option maxRecDepth 100000 in
set_option maxHeartbeats 1000000 in
/-- Sync where nothing is loose -/
theorem jsync_idle {jb gd g : Nat} {s : ByteArray} (w : World) (h : JAt w jb gd g s) (hL : ∀ w1 : World, Below w.heap.size w w1 → Calls Try.prog 43 #[.pointer (some ⟨gd, 0, none⟩), .string s] w1 fun e w' => e = .returned (.int .i64 0) ∧ Below w1.heap.size w1 w') :
    Calls Try.prog 14 #[.pointer (some ⟨jb, 0, none⟩)] w fun e w' => e = .returned (.int .i64 0) ∧ Below w.heap.size w w' := by
  have j0 := h.c0
  have j1 := h.c1
  have j2 := h.c2
  have HJ := Lib.hid h
  have HL := Lib.hid (hL w.drew (Below.refl _ _).drew)
  clear h hL
  go_enter Try.func14, Try.ntmps14
  go_upto_region 3 with fail
  refine wp_region_noPanic ?_
  refine wp_region_held_drew (S := fun W => W.cell? ⟨jb, 0, none⟩ = some (.pointer (some ⟨gd, 0, none⟩)) ∧ W.cell? ⟨jb, 1, none⟩ = some (.pointer (some ⟨g, 0, none⟩)) ∧ W.cell? ⟨jb, 2, none⟩ = some (.string s)) (by kernel_rfl) ?_ (fun hHeld => ?_)
  · exact ⟨j0, j1, j2⟩
  try simp only [heldPut, List.set]
  refine heldTake (i := 0) (v := ?_) rfl (by kernel_rfl) (by kernel_rfl) (by kernel_rfl) (fun _ _ _ h => h) (Or.inl ⟨by rfl, ?_⟩) (by assumption) ?_
  rotate_left
  · (intro W hSw; (try dsimp only at hSw); obtain ⟨f0, f1, f2⟩ := hSw; go_simp; try with_reducible rfl)
  try simp only [heldPut, List.set]
  refine heldTake (i := 1) (v := ?_) rfl (by kernel_rfl) (by kernel_rfl) (by kernel_rfl) (fun _ _ _ h => h) (Or.inl ⟨by rfl, ?_⟩) (by assumption) ?_
  rotate_left
  · (intro W hSw; (try dsimp only at hSw); obtain ⟨f0, f1, f2⟩ := hSw; go_simp; try with_reducible rfl)
  try simp only [heldPut, List.set]
  refine heldTake (i := 2) (v := ?_) rfl (by kernel_rfl) (by kernel_rfl) (by kernel_rfl) (fun _ _ _ h => h) (Or.inl ⟨by rfl, ?_⟩) (by assumption) ?_
  rotate_left
  · (intro W hSw; (try dsimp only at hSw); obtain ⟨f0, f1, f2⟩ := hSw; go_simp; try with_reducible rfl)
  try simp only [heldPut, List.set]
  refine heldTake (i := 3) (v := ?_) rfl (by kernel_rfl) (by kernel_rfl) (by kernel_rfl) (fun _ _ _ h => h) (Or.inl ⟨by rfl, ?_⟩) (by assumption) ?_
  rotate_left
  · (intro W hSw; (try dsimp only at hSw); obtain ⟨f0, f1, f2⟩ := hSw; go_simp; try with_reducible rfl)
  try simp only [heldPut, List.set]
  refine heldTake (i := 4) (v := ?_) rfl (by kernel_rfl) (by kernel_rfl) (by kernel_rfl) (fun _ _ _ h => h) (Or.inl ⟨by rfl, ?_⟩) (by assumption) ?_
  rotate_left
  · (intro W hSw; (try dsimp only at hSw); obtain ⟨f0, f1, f2⟩ := hSw; go_simp; try with_reducible rfl)
  try simp only [heldPut, List.set]
  refine heldTake (i := 5) (v := ?_) rfl (by kernel_rfl) (by kernel_rfl) (by kernel_rfl) (fun _ _ _ h => h) (Or.inl ⟨by rfl, ?_⟩) (by assumption) ?_
  rotate_left
  · (intro W hSw; (try dsimp only at hSw); obtain ⟨f0, f1, f2⟩ := hSw; go_simp; try with_reducible rfl)
  try simp only [heldPut, List.set]
  refine heldTake (i := 6) (v := ?_) rfl (by kernel_rfl) (by kernel_rfl) (by kernel_rfl) (fun _ _ _ h => h) (Or.inl ⟨by rfl, ?_⟩) (by assumption) ?_
  rotate_left
  · (intro W hSw; (try dsimp only at hSw); obtain ⟨f0, f1, f2⟩ := hSw; go_simp; try with_reducible rfl)
  try simp only [heldPut, List.set]
  refine heldTake (i := 7) (v := ?_) rfl (by kernel_rfl) (by kernel_rfl) (by kernel_rfl) (fun _ _ _ h => h) (Or.inl ⟨by rfl, ?_⟩) (by assumption) ?_
  rotate_left
  · (intro W hSw; (try dsimp only at hSw); obtain ⟨f0, f1, f2⟩ := hSw; go_simp; try with_reducible rfl)
  try simp only [heldPut, List.set]
  refine heldOne (i := 8) rfl (by kernel_rfl) (fun K hK => ?_)
  go_simp
  refine HL.out.mono ?_
  rintro e w2 ⟨rfl, hb2⟩
  have Hb2 := Lib.hid ((Below.refl _ _).drew.trans (hb2.mono (Nat.le_refl _)) : Below w.heap.size w w2)
  have HJ2 := Lib.hid (HJ.out.below Hb2.out)
  clear hb2
  go_wp2_with fail
  refine hK.out _ _ ?_ (fun hHeld => ?_)
  · exact ⟨HJ2.out.c0, HJ2.out.c1, HJ2.out.c2⟩
  clear hK K
  try simp only [heldPut, List.set]
  refine heldTake (i := 9) (v := ?_) rfl (by kernel_rfl) (by kernel_rfl) (by kernel_rfl) (fun _ _ _ h => h) (Or.inl ⟨by rfl, ?_⟩) (by assumption) ?_
  rotate_left
  · (intro W hSw; (try dsimp only at hSw);  go_simp; try with_reducible rfl)
  try simp only [heldPut, List.set]
  refine wpAnyH_done (by kernel_rfl) ?_ _
  refine NoPanic.normal ?_
  go_wp2
  go_ret
  exact ⟨rfl, Hb2.out⟩

set_option maxRecDepth 100000 in
set_option maxHeartbeats 1000000 in
/-- Sync where bytes are loose -/
theorem jsync_busy {jb gd g k : Nat} {s : ByteArray} (w : World) (h : JAt w jb gd g s) (hk : 0 < k) (hL : ∀ w1 : World, Below w.heap.size w w1 → Calls Try.prog 43 #[.pointer (some ⟨gd, 0, none⟩), .string s] w1 fun e w' => e = .returned (.int .i64 k) ∧ Below w1.heap.size w1 w')
    (Q : World → World → Prop) (hS : ∀ w1 : World, Below w.heap.size w w1 → Calls Try.prog 40 #[.pointer (some ⟨gd, 0, none⟩), .string s] w1 fun e w' => e = .returned (.int .i64 0) ∧ (JAt w' jb gd g s ∧ Q w1 w')) :
    Calls Try.prog 14 #[.pointer (some ⟨jb, 0, none⟩)] w fun e w' => e = .returned (.int .i64 0) ∧ ∃ w1, Below w.heap.size w w1 ∧ JAt w' jb gd g s ∧ Q w1 w' := by
  have j0 := h.c0
  have j1 := h.c1
  have j2 := h.c2
  have HJ := Lib.hid h
  have HL := Lib.hid (hL w.drew (Below.refl _ _).drew)
  have HS := Lib.hid hS
  have hk1 : ((k : Int) == 0) = false := by rw [beq_eq_false_iff_ne]; omega
  clear h hL hS
  go_enter Try.func14, Try.ntmps14
  go_upto_region 3 with fail
  refine wp_region_noPanic ?_
  refine wp_region_held_drew (S := fun W => W.cell? ⟨jb, 0, none⟩ = some (.pointer (some ⟨gd, 0, none⟩)) ∧ W.cell? ⟨jb, 1, none⟩ = some (.pointer (some ⟨g, 0, none⟩)) ∧ W.cell? ⟨jb, 2, none⟩ = some (.string s)) (by kernel_rfl) ?_ (fun hHeld => ?_)
  · exact ⟨j0, j1, j2⟩
  try simp only [heldPut, List.set]
  refine heldTake (i := 0) (v := ?_) rfl (by kernel_rfl) (by kernel_rfl) (by kernel_rfl) (fun _ _ _ h => h) (Or.inl ⟨by rfl, ?_⟩) (by assumption) ?_
  rotate_left
  · (intro W hSw; (try dsimp only at hSw); obtain ⟨f0, f1, f2⟩ := hSw; go_simp; try with_reducible rfl)
  try simp only [heldPut, List.set]
  refine heldTake (i := 1) (v := ?_) rfl (by kernel_rfl) (by kernel_rfl) (by kernel_rfl) (fun _ _ _ h => h) (Or.inl ⟨by rfl, ?_⟩) (by assumption) ?_
  rotate_left
  · (intro W hSw; (try dsimp only at hSw); obtain ⟨f0, f1, f2⟩ := hSw; go_simp; try with_reducible rfl)
  try simp only [heldPut, List.set]
  refine heldTake (i := 2) (v := ?_) rfl (by kernel_rfl) (by kernel_rfl) (by kernel_rfl) (fun _ _ _ h => h) (Or.inl ⟨by rfl, ?_⟩) (by assumption) ?_
  rotate_left
  · (intro W hSw; (try dsimp only at hSw); obtain ⟨f0, f1, f2⟩ := hSw; go_simp; try with_reducible rfl)
  try simp only [heldPut, List.set]
  refine heldTake (i := 3) (v := ?_) rfl (by kernel_rfl) (by kernel_rfl) (by kernel_rfl) (fun _ _ _ h => h) (Or.inl ⟨by rfl, ?_⟩) (by assumption) ?_
  rotate_left
  · (intro W hSw; (try dsimp only at hSw); obtain ⟨f0, f1, f2⟩ := hSw; go_simp; try with_reducible rfl)
  try simp only [heldPut, List.set]
  refine heldTake (i := 4) (v := ?_) rfl (by kernel_rfl) (by kernel_rfl) (by kernel_rfl) (fun _ _ _ h => h) (Or.inl ⟨by rfl, ?_⟩) (by assumption) ?_
  rotate_left
  · (intro W hSw; (try dsimp only at hSw); obtain ⟨f0, f1, f2⟩ := hSw; go_simp; try with_reducible rfl)
  try simp only [heldPut, List.set]
  refine heldTake (i := 5) (v := ?_) rfl (by kernel_rfl) (by kernel_rfl) (by kernel_rfl) (fun _ _ _ h => h) (Or.inl ⟨by rfl, ?_⟩) (by assumption) ?_
  rotate_left
  · (intro W hSw; (try dsimp only at hSw); obtain ⟨f0, f1, f2⟩ := hSw; go_simp; try with_reducible rfl)
  try simp only [heldPut, List.set]
  refine heldTake (i := 6) (v := ?_) rfl (by kernel_rfl) (by kernel_rfl) (by kernel_rfl) (fun _ _ _ h => h) (Or.inl ⟨by rfl, ?_⟩) (by assumption) ?_
  rotate_left
  · (intro W hSw; (try dsimp only at hSw); obtain ⟨f0, f1, f2⟩ := hSw; go_simp; try with_reducible rfl)
  try simp only [heldPut, List.set]
  refine heldTake (i := 7) (v := ?_) rfl (by kernel_rfl) (by kernel_rfl) (by kernel_rfl) (fun _ _ _ h => h) (Or.inl ⟨by rfl, ?_⟩) (by assumption) ?_
  rotate_left
  · (intro W hSw; (try dsimp only at hSw); obtain ⟨f0, f1, f2⟩ := hSw; go_simp; try with_reducible rfl)
  try simp only [heldPut, List.set]
  refine heldOne (i := 8) rfl (by kernel_rfl) (fun K hK => ?_)
  go_simp
  refine HL.out.mono ?_
  rintro e w2 ⟨rfl, hb2⟩
  have Hb2 := Lib.hid ((Below.refl _ _).drew.trans (hb2.mono (Nat.le_refl _)) : Below w.heap.size w w2)
  have HJ2 := Lib.hid (HJ.out.below Hb2.out)
  clear hb2
  go_wp2_with fail
  refine hK.out _ _ ?_ (fun hHeld => ?_)
  · exact ⟨HJ2.out.c0, HJ2.out.c1, HJ2.out.c2⟩
  clear hK K
  try simp only [heldPut, List.set]
  refine heldTake (i := 9) (v := ?_) rfl (by kernel_rfl) (by kernel_rfl) (by kernel_rfl) (fun _ _ _ h => h) (Or.inl ⟨by rfl, ?_⟩) (by assumption) ?_
  rotate_left
  · (intro W hSw; (try dsimp only at hSw);  go_simp; try with_reducible rfl)
  try simp only [heldPut, List.set]
  refine wpAnyH_done (by kernel_rfl) ?_ _
  refine NoPanic.normal ?_
  clear j0 j1 j2
  have j0 := HJ2.out.c0
  have j1 := HJ2.out.c1
  have j2 := HJ2.out.c2
  have HSd := Lib.hid (HS.out w2.drew (Hb2.out.drew))
  go_upto_region 5 with fail
  refine wp_region_noPanic ?_
  refine wp_region_held_drew (S := fun W => W.cell? ⟨jb, 0, none⟩ = some (.pointer (some ⟨gd, 0, none⟩)) ∧ W.cell? ⟨jb, 1, none⟩ = some (.pointer (some ⟨g, 0, none⟩)) ∧ W.cell? ⟨jb, 2, none⟩ = some (.string s)) (by kernel_rfl) ?_ (fun hHeld => ?_)
  · exact ⟨j0, j1, j2⟩
  try simp only [heldPut, List.set]
  refine heldTake (i := 0) (v := ?_) rfl (by kernel_rfl) (by kernel_rfl) (by kernel_rfl) (fun _ _ _ h => h) (Or.inl ⟨by rfl, ?_⟩) (by assumption) ?_
  rotate_left
  · (intro W hSw; (try dsimp only at hSw); obtain ⟨f0, f1, f2⟩ := hSw; go_simp; try with_reducible rfl)
  try simp only [heldPut, List.set]
  refine heldTake (i := 1) (v := ?_) rfl (by kernel_rfl) (by kernel_rfl) (by kernel_rfl) (fun _ _ _ h => h) (Or.inl ⟨by rfl, ?_⟩) (by assumption) ?_
  rotate_left
  · (intro W hSw; (try dsimp only at hSw); obtain ⟨f0, f1, f2⟩ := hSw; go_simp; try with_reducible rfl)
  try simp only [heldPut, List.set]
  refine heldTake (i := 2) (v := ?_) rfl (by kernel_rfl) (by kernel_rfl) (by kernel_rfl) (fun _ _ _ h => h) (Or.inl ⟨by rfl, ?_⟩) (by assumption) ?_
  rotate_left
  · (intro W hSw; (try dsimp only at hSw); obtain ⟨f0, f1, f2⟩ := hSw; go_simp; try with_reducible rfl)
  try simp only [heldPut, List.set]
  refine heldTake (i := 3) (v := ?_) rfl (by kernel_rfl) (by kernel_rfl) (by kernel_rfl) (fun _ _ _ h => h) (Or.inl ⟨by rfl, ?_⟩) (by assumption) ?_
  rotate_left
  · (intro W hSw; (try dsimp only at hSw); obtain ⟨f0, f1, f2⟩ := hSw; go_simp; try with_reducible rfl)
  try simp only [heldPut, List.set]
  refine heldTake (i := 4) (v := ?_) rfl (by kernel_rfl) (by kernel_rfl) (by kernel_rfl) (fun _ _ _ h => h) (Or.inl ⟨by rfl, ?_⟩) (by assumption) ?_
  rotate_left
  · (intro W hSw; (try dsimp only at hSw); obtain ⟨f0, f1, f2⟩ := hSw; go_simp; try with_reducible rfl)
  try simp only [heldPut, List.set]
  refine heldTake (i := 5) (v := ?_) rfl (by kernel_rfl) (by kernel_rfl) (by kernel_rfl) (fun _ _ _ h => h) (Or.inl ⟨by rfl, ?_⟩) (by assumption) ?_
  rotate_left
  · (intro W hSw; (try dsimp only at hSw); obtain ⟨f0, f1, f2⟩ := hSw; go_simp; try with_reducible rfl)
  try simp only [heldPut, List.set]
  refine heldTake (i := 6) (v := ?_) rfl (by kernel_rfl) (by kernel_rfl) (by kernel_rfl) (fun _ _ _ h => h) (Or.inl ⟨by rfl, ?_⟩) (by assumption) ?_
  rotate_left
  · (intro W hSw; (try dsimp only at hSw); obtain ⟨f0, f1, f2⟩ := hSw; go_simp; try with_reducible rfl)
  try simp only [heldPut, List.set]
  refine heldTake (i := 7) (v := ?_) rfl (by kernel_rfl) (by kernel_rfl) (by kernel_rfl) (fun _ _ _ h => h) (Or.inl ⟨by rfl, ?_⟩) (by assumption) ?_
  rotate_left
  · (intro W hSw; (try dsimp only at hSw); obtain ⟨f0, f1, f2⟩ := hSw; go_simp; try with_reducible rfl)
  try simp only [heldPut, List.set]
  refine heldOne (i := 8) rfl (by kernel_rfl) (fun K hK => ?_)
  go_simp
  refine HSd.out.mono ?_
  rintro e w3 ⟨rfl, hq⟩
  have Hq := Lib.hid hq
  clear hq
  go_wp2_with fail
  refine hK.out _ _ ?_ (fun hHeld => ?_)
  · exact ⟨Hq.out.1.c0, Hq.out.1.c1, Hq.out.1.c2⟩
  clear hK K
  try simp only [heldPut, List.set]
  refine heldTake (i := 9) (v := ?_) rfl (by kernel_rfl) (by kernel_rfl) (by kernel_rfl) (fun _ _ _ h => h) (Or.inl ⟨by rfl, ?_⟩) (by assumption) ?_
  rotate_left
  · (intro W hSw; (try dsimp only at hSw);  go_simp; try with_reducible rfl)
  try simp only [heldPut, List.set]
  refine wpAnyH_done (by kernel_rfl) ?_ _
  refine NoPanic.normal ?_
  go_wp2
  go_ret
  exact ⟨rfl, w2.drew, Hb2.out.drew, Hq.out.1, Hq.out.2⟩

set_option maxRecDepth 100000 in
set_option maxHeartbeats 1000000 in
theorem jsize_any {jb gd g n : Nat} {z : Int} {s : ByteArray} (w : World) (h : JAt w jb gd g s) (hR : ∀ w1 : World, Below w.heap.size w w1 → Calls Try.prog 37 #[.pointer (some ⟨gd, 0, none⟩), .string s] w1 fun e w' => ∃ A c, e = .returned (.tuple #[.slice A n c, .int .i64 z]) ∧ Below w1.heap.size w1 w') :
    Calls Try.prog 17 #[.pointer (some ⟨jb, 0, none⟩)] w fun e w' => e = .returned (.int .i64 n) ∧ Below w.heap.size w w' := by
  have j0 := h.c0
  have j1 := h.c1
  have j2 := h.c2
  have HJ := Lib.hid h
  have HR := Lib.hid (hR w.drew (Below.refl _ _).drew)
  clear h hR
  go_enter Try.func17, Try.ntmps17
  go_upto_region 3 with fail
  refine wp_region_noPanic ?_
  refine wp_region_held_drew (S := fun W => W.cell? ⟨jb, 0, none⟩ = some (.pointer (some ⟨gd, 0, none⟩)) ∧ W.cell? ⟨jb, 1, none⟩ = some (.pointer (some ⟨g, 0, none⟩)) ∧ W.cell? ⟨jb, 2, none⟩ = some (.string s)) (by kernel_rfl) ?_ (fun hHeld => ?_)
  · exact ⟨j0, j1, j2⟩
  try simp only [heldPut, List.set]
  refine heldTake (i := 0) (v := ?_) rfl (by kernel_rfl) (by kernel_rfl) (by kernel_rfl) (fun _ _ _ h => h) (Or.inl ⟨by rfl, ?_⟩) (by assumption) ?_
  rotate_left
  · (intro W hSw; (try dsimp only at hSw); obtain ⟨f0, f1, f2⟩ := hSw; go_simp; try with_reducible rfl)
  try simp only [heldPut, List.set]
  refine heldTake (i := 1) (v := ?_) rfl (by kernel_rfl) (by kernel_rfl) (by kernel_rfl) (fun _ _ _ h => h) (Or.inl ⟨by rfl, ?_⟩) (by assumption) ?_
  rotate_left
  · (intro W hSw; (try dsimp only at hSw); obtain ⟨f0, f1, f2⟩ := hSw; go_simp; try with_reducible rfl)
  try simp only [heldPut, List.set]
  refine heldTake (i := 2) (v := ?_) rfl (by kernel_rfl) (by kernel_rfl) (by kernel_rfl) (fun _ _ _ h => h) (Or.inl ⟨by rfl, ?_⟩) (by assumption) ?_
  rotate_left
  · (intro W hSw; (try dsimp only at hSw); obtain ⟨f0, f1, f2⟩ := hSw; go_simp; try with_reducible rfl)
  try simp only [heldPut, List.set]
  refine heldTake (i := 3) (v := ?_) rfl (by kernel_rfl) (by kernel_rfl) (by kernel_rfl) (fun _ _ _ h => h) (Or.inl ⟨by rfl, ?_⟩) (by assumption) ?_
  rotate_left
  · (intro W hSw; (try dsimp only at hSw); obtain ⟨f0, f1, f2⟩ := hSw; go_simp; try with_reducible rfl)
  try simp only [heldPut, List.set]
  refine heldTake (i := 4) (v := ?_) rfl (by kernel_rfl) (by kernel_rfl) (by kernel_rfl) (fun _ _ _ h => h) (Or.inl ⟨by rfl, ?_⟩) (by assumption) ?_
  rotate_left
  · (intro W hSw; (try dsimp only at hSw); obtain ⟨f0, f1, f2⟩ := hSw; go_simp; try with_reducible rfl)
  try simp only [heldPut, List.set]
  refine heldTake (i := 5) (v := ?_) rfl (by kernel_rfl) (by kernel_rfl) (by kernel_rfl) (fun _ _ _ h => h) (Or.inl ⟨by rfl, ?_⟩) (by assumption) ?_
  rotate_left
  · (intro W hSw; (try dsimp only at hSw); obtain ⟨f0, f1, f2⟩ := hSw; go_simp; try with_reducible rfl)
  try simp only [heldPut, List.set]
  refine heldTake (i := 6) (v := ?_) rfl (by kernel_rfl) (by kernel_rfl) (by kernel_rfl) (fun _ _ _ h => h) (Or.inl ⟨by rfl, ?_⟩) (by assumption) ?_
  rotate_left
  · (intro W hSw; (try dsimp only at hSw); obtain ⟨f0, f1, f2⟩ := hSw; go_simp; try with_reducible rfl)
  try simp only [heldPut, List.set]
  refine heldTake (i := 7) (v := ?_) rfl (by kernel_rfl) (by kernel_rfl) (by kernel_rfl) (fun _ _ _ h => h) (Or.inl ⟨by rfl, ?_⟩) (by assumption) ?_
  rotate_left
  · (intro W hSw; (try dsimp only at hSw); obtain ⟨f0, f1, f2⟩ := hSw; go_simp; try with_reducible rfl)
  try simp only [heldPut, List.set]
  refine heldOne (i := 8) rfl (by kernel_rfl) (fun K hK => ?_)
  go_simp
  refine HR.out.mono ?_
  rintro e w2 ⟨A6, c6, rfl, hb2⟩
  have Hb2 := Lib.hid ((Below.refl _ _).drew.trans (hb2.mono (Nat.le_refl _)) : Below w.heap.size w w2)
  have HJ2 := Lib.hid (HJ.out.below Hb2.out)
  clear hb2
  go_wp2_with fail
  refine hK.out _ _ ?_ (fun hHeld => ?_)
  · exact ⟨HJ2.out.c0, HJ2.out.c1, HJ2.out.c2⟩
  clear hK K
  try simp only [heldPut, List.set]
  refine heldTake (i := 9) (v := ?_) rfl (by kernel_rfl) (by kernel_rfl) (by kernel_rfl) (fun _ _ _ h => h) (Or.inl ⟨by rfl, ?_⟩) (by assumption) ?_
  rotate_left
  · (intro W hSw; (try dsimp only at hSw);  go_simp; try with_reducible rfl)
  try simp only [heldPut, List.set]
  refine heldTake (i := 10) (v := ?_) rfl (by kernel_rfl) (by kernel_rfl) (by kernel_rfl) (fun _ _ _ h => h) (Or.inl ⟨by rfl, ?_⟩) (by assumption) ?_
  rotate_left
  · (intro W hSw; (try dsimp only at hSw);  go_simp; try with_reducible rfl)
  try simp only [heldPut, List.set]
  refine heldTake (i := 11) (v := ?_) rfl (by kernel_rfl) (by kernel_rfl) (by kernel_rfl) (fun _ _ _ h => h) (Or.inl ⟨by rfl, ?_⟩) (by assumption) ?_
  rotate_left
  · (intro W hSw; (try dsimp only at hSw);  go_simp; try with_reducible rfl)
  try simp only [heldPut, List.set]
  refine heldTake (i := 12) (v := ?_) rfl (by kernel_rfl) (by kernel_rfl) (by kernel_rfl) (fun _ _ _ h => h) (Or.inl ⟨by rfl, ?_⟩) (by assumption) ?_
  rotate_left
  · (intro W hSw; (try dsimp only at hSw);  go_simp; try with_reducible rfl)
  try simp only [heldPut, List.set]
  refine heldTake (i := 13) (v := ?_) rfl (by kernel_rfl) (by kernel_rfl) (by kernel_rfl) (fun _ _ _ h => h) (Or.inl ⟨by rfl, ?_⟩) (by assumption) ?_
  rotate_left
  · (intro W hSw; (try dsimp only at hSw);  go_simp; try with_reducible rfl)
  try simp only [heldPut, List.set]
  refine wpAnyH_done (by kernel_rfl) ?_ _
  refine NoPanic.normal ?_
  go_wp2
  go_ret
  exact ⟨rfl, Hb2.out⟩
end Go.Proofs.Ytgcfofnlgdfmoaa
