/- Several texts in one: JlScan, JlObj. -/
import Derived.Test.YtholdcgkhicdmaaGreatDoorZq25
namespace Go.Proofs.YtholdcgkhicdmaaGreatDoor
open Go.RowKit
theorem TurnsIn.row {w w3 w4 : World} {g : Nat} {P : Nat → Prop} {row : Option Nat} (h : TurnsIn w w3 g P) (hgl : g < w3.heap.size) (hg : w3.grownBy w4 row) (hr : ∀ k, row = some k → w.heap.size ≤ k ∧ k ≠ g) : TurnsIn w w4 g P :=
 ⟨⟨hg.os.trans h.grown.os, hg.tape.trans h.grown.tape, hg.output.trans h.grown.output, Nat.le_trans h.grown.size hg.size, fun k hk hne => (hg.block k (Nat.lt_of_lt_of_le hk h.grown.size) (fun e => by have := (hr k e.symm).1; omega)).trans (h.grown.block k hk hne)⟩,
   fun o ho => (World.cell?_of_block (w := w3) (w' := w4) (a := ⟨g, o, none⟩) (hg.block g hgl (fun e => (hr g e.symm).2 rfl))).trans (h.cell o ho),
   fun o => (World.frozen?_of_block (w := w3) (w' := w4) (a := ⟨g, o, none⟩) (hg.block g hgl (fun e => (hr g e.symm).2 rfl))).trans (h.fz o)⟩
theorem Tab.row {w3 w4 : World} {g d s b : Nat} {row : Option Nat} (h : Tab w3 g d s b) (hg : w3.grownBy w4 row) (hr : row ≠ some g) : Tab w4 g d s b :=
 have hc : ∀ o, w4.cell? ⟨g, o, none⟩ = w3.cell? ⟨g, o, none⟩ := fun o => World.cell?_of_block (w := w3) (w' := w4) (a := ⟨g, o, none⟩) (hg.block g h.lt (fun e => hr e.symm))
 { lt := Nat.lt_of_lt_of_le h.lt hg.size
   c0 := (hc 0).trans h.c0
   c1 := (hc 1).trans h.c1
   tab := fun j hj => by
    obtain ⟨x, hx, hx2⟩ := h.tab j hj
    exact ⟨x, (hc _).trans hx, hx2⟩
   sums := (hc 259).trans h.sums
   bytes := (hc 260).trans h.bytes
   fz := fun o => (World.frozen?_of_block (w := w3) (w' := w4) (a := ⟨g, o, none⟩) (hg.block g h.lt (fun e => hr e.symm))).trans (h.fz o) }
set_option maxRecDepth 100000 in
set_option maxHeartbeats 2000000 in
theorem jscan_any (g d s t : Nat) (hd : d ≤ 1) (A : Option Addr) (n c : Nat) (l : List Nat) (B : Nat) (w : World) (h : Tab w g d s t) (hn : n = l.length) (hc : n ≤ c) (hm : n ≤ 100000000) (hs : s < 500000000) (htb : t < 500000000000) (hr : RdB w B A l) (hB : B ≤ w.heap.size) (hok : OkB l) (hoff : Off A g l) :
  Calls Tryz.prog 99 #[.pointer (some ⟨g, 0, none⟩), .slice A n c] w fun e w' => ∃ v, e = .returned (.tuple #[v, .int .i64 (scanJ l).2]) ∧ Rs w' w.heap.size g v (scanJ l).1 ∧ (∃ d' s' t', d' ≤ 1 ∧ s' ≤ s + n + 1 ∧ t' ≤ t + 2 * n ∧ Tab w' g d' s' t') ∧ TurnsIn w w' g (fun _ => True) := by
 obtain ⟨i0, hi0, hz0, hz1, hz2⟩ := info_parts Tryz.infoSl
 have HT := Lib.hid h
 have Hn := Lib.hid hn
 have Hr := Lib.hid hr
 have Hok := Lib.hid hok
 have Hoff := Lib.hid hoff
 have hgw := h.lt
 clear h hn hr hok hoff
 go_enter Tryz.func99, Tryz.ntmps99
 go_wp2
 go_loopw [6, 7] (fun cv ev wx => ∃ (k : Nat) (L : List (List Nat)) (d' s' t' : Nat), k ≤ n ∧ ev = .int .i64 k ∧ L.length ≤ k ∧ d' ≤ 1 ∧ s' ≤ s + k ∧ t' ≤ t + k ∧ Hid (scanJ l = (L ++ (scanJ (l.drop k)).1, k + (scanJ (l.drop k)).2)) ∧ Hid (Rs wx w.heap.size g cv L) ∧ Hid (Tab wx g d' s' t') ∧ Hid (TurnsIn w wx g (fun _ => True))) (fun _ ev _ => n - (intOf ev).toNat)
 case atStart => exact ⟨0, [], d, s, t, Nat.zero_le _, rfl, Nat.le_refl _, hd, Nat.le_refl _, Nat.le_refl _, by show _ = _; rw [List.drop_zero]; simp, Rs.nil _ _ _, HT.out, TurnsIn.refl _ _ _⟩
 case round =>
  obtain ⟨k, L, d', s', t', hk, rfl, hLk, hd', hs', ht', Hsc, HRs, HT', Htu⟩ := hrel
  have sk := fun w => slB_l A n c k k rfl hk w
  have hnk : n - k = (l.drop k).length := by rw [List.length_drop, ← Hn.out]
  have hJ := jtake_any g d' s' t' hd' (subA A c k) (n - k) (c - k) (l.drop k) B wr HT'.out hnk (by omega) (by omega) (by omega) (by omega) ((Hr.out.turned Hoff.out Htu.out).sub (by have := Hn.out; omega)) (Nat.le_trans hB Htu.out.grown.size) (Hok.out.drop k) Hoff.out.sub
  have HJ := Lib.hid hJ
  have Hnk := Lib.hid hnk
  obtain ⟨A6, c6, rfl⟩ := HRs.out.slice
  clear hJ hnk
  go_wp2_with fail
  refine HJ.out.mono ?_
  rintro e w2 (⟨hno, rfl, ⟨d2, s2, t2, hd2, hs2, ht2, hT2⟩, htu2⟩ | ⟨x, v, hyes, rfl, hown, hT2, htu2⟩)
  ·have HT2 := Lib.hid hT2
   have Htu2 := Lib.hid htu2
   have Hno := Lib.hid hno
   clear hT2 htu2 hno
   go_wp2
   go_ret2
   refine ⟨.slice A6 L.length c6, ?_, ?_, ⟨d2, s2, t2, hd2, by omega, by omega, HT2.out⟩, Htu.out.trans Htu2.out⟩
   ·rw [Hsc.out, scanJ_none Hno.out]; rfl
   ·have := HRs.out.turned Htu2.out
    rw [Hsc.out, scanJ_none Hno.out, List.append_nil]
    exact this
  ·obtain ⟨Ax, cx, rfl⟩ := ownB_slice hown
   obtain ⟨r1, r2, r3⟩ := rdB_of_own hown
   have hcapx : x.length ≤ cx := by
    rcases hown.2 with ⟨e1, e2⟩ | ⟨_, _, _, e1, _, _, e2, _⟩
    ·omega
    ·injection e1 with _ _ e3; omega
   have hxl := takeJ_long hyes
   have hxl2 : x.length + 8 ≤ n - k := by rw [Hnk.out]; exact hxl
   have hokx : OkB x := by
    obtain ⟨e1, _⟩ := takeJ_some (Hok.out.drop k) hyes
    intro z hz
    refine (Hok.out.drop k) z ?_
    rw [e1]; simp [laidR, hz]
   have hRs2 := HRs.out.turned htu2
   have hsz2 := htu2.grown.size
   have hfar : ∀ a, Ax = some a → 0 < x.length → w.heap.size ≤ a.block ∧ a.block ≠ g ∧ (Value.slice A6 L.length c6).ownBlock ≠ some a.block := fun a ha h0 => by
    obtain ⟨g', cap, hv, hge, hlt⟩ := hown.form (by omega)
    injection hv with hv
    rw [ha] at hv
    injection hv with hv
    have hblk : a.block = g' := by rw [hv]
    have h1 := Htu.out.grown.size
    have h2 := HT'.out.lt
    refine ⟨by omega, by omega, fun e => ?_⟩
    obtain ⟨X, hX⟩ := HRs.out
    have := (hX.own.lt _ e).2
    omega
   obtain ⟨X, hX⟩ := hRs2
   have hb3 : Below w2.heap.size w2 (w2.alloc (.cells #[.slice Ax x.length cx] 77)) := (Below.refl _ _).alloc (Nat.le_refl _) _
   have hsrc : Src (w2.alloc (.cells #[.slice Ax x.length cx] 77)) (some ⟨w2.heap.size, 0, none⟩) 1 1 [.slice Ax x.length cx] := ⟨rfl, fun _ => ⟨_, rfl, fun j u hj => by
    cases j with
    | zero => simp at hj; subst hj; rw [Addr.add_lit, World.cell?_alloc_at _ _ _ _ rfl]; rfl
    | succ j => simp at hj⟩⟩
   obtain ⟨X3, hX3⟩ : ∃ X3, RsX (w2.alloc (.cells #[.slice Ax x.length cx] 77)) w.heap.size g (.slice A6 L.length c6) X3 L := Rs.below ⟨X, hX⟩ hb3
   have HX3 := Lib.hid hX3
   have HSrc := Lib.hid hsrc
   have HT2 := Lib.hid (hT2.below hb3)
   have Htu2 := Lib.hid (Htu.out.trans (htu2.trans (TurnsIn.of_below (P := fun _ => True) hT2.lt hb3)))
   have Hyes := Lib.hid hyes
   have Hrd := Lib.hid ((r1.below hb3).more hb3.size)
   have Hfar := Lib.hid hfar
   have Hokx := Lib.hid hokx
   have hgw2 : g < (w2.alloc (.cells #[.slice Ax x.length cx] 77)).heap.size := Nat.lt_of_lt_of_le hT2.lt hb3.size
   have hbase : w.heap.size ≤ (w2.alloc (.cells #[.slice Ax x.length cx] 77)).heap.size := Nat.le_trans Htu.out.grown.size (Nat.le_trans hsz2 hb3.size)
   have Hnil : Hid (Ax = none → x.length = 0) := r3
   clear hown r1 r2 r3 hX hX3 hsrc hT2 htu2 hyes hfar hokx hxl
   go_wp2_with (at_builtin; refine wpList_append_src (base := w.heap.size) rfl _ _ rfl Tryz.underlying82 hi0 hz0 hz1 hz2 rfl (by decide) rfl HX3.out.own rfl HSrc.out (fun u hu => by simp at hu; rw [hu]; rfl) (by unfold maxLen; omega) (by omega) hbase ?_; intro v4 w4 ho4 hg4 hb4; replace ho4 := Lib.hid ho4; replace hg4 := Lib.hid hg4; replace hb4 := Lib.hid hb4)
   have hRs4 : Hid (Rs w4 w.heap.size g v4 (L ++ [x])) := Rs.app ⟨X3, HX3.out⟩ hgw2 rfl hcapx Hnil.out Hrd.out Hokx.out Hfar.out HX3.out ho4.out hg4.out hb4.out
   have Hsc2 : Hid (scanJ l = ((L ++ [x]) ++ (scanJ (l.drop (k + (x.length + 8)))).1, (k + (x.length + 8)) + (scanJ (l.drop (k + (x.length + 8)))).2)) := by
    show _ = _
    rw [Hsc.out, scanJ_some Hyes.out, List.drop_drop]
    simp only [List.append_assoc, List.cons_append, List.nil_append, Nat.add_assoc]
   have hrow : ∀ k, (Value.slice A6 L.length c6).ownBlock = some k → w.heap.size ≤ k ∧ k ≠ g := fun k hk => ⟨(HX3.out.own.lt k hk).1, fun e => HX3.out.vg (by rw [hk, e])⟩
   have HT4 := Lib.hid (HT2.out.row hg4.out (fun e => HX3.out.vg e))
   have Ht4 := Lib.hid (Htu2.out.row HT2.out.lt hg4.out hrow)
   clear hrow
   go_wp2
   go_roundw
   case rel => exact ⟨k + (x.length + 8), L ++ [x], 1, s' + 1, t' + 4 + x.length, by omega, by congr 1, by rw [List.length_append]; show _ + 1 ≤ _; omega, Nat.le_refl _, by omega, by omega, Hsc2.out, hRs4.out, HT4.out, Ht4.out⟩
   case measure => simp [intOf]; omega
end Go.Proofs.YtholdcgkhicdmaaGreatDoor
namespace Go.Proofs.YtholdcgkhicdmaaGreatDoor
open Go.RowKit Go.Maps
theorem TurnsIn.only {w w' : World} {g : Nat} {P : Nat → Prop} (h : TurnsIn w w' g P) : Only (fun k => k = g) w w' := ⟨h.grown.os, h.grown.tape, h.grown.output, h.grown.size, fun k hk hne => h.grown.block k hk (fun e => hne (by injection e))⟩
theorem Tab.only {w w' : World} {g d s b : Nat} {T : Nat → Prop} (h : Tab w g d s b) (ho : Only T w w') (hT : ¬ T g) : Tab w' g d s b :=
 { lt := Nat.lt_of_lt_of_le h.lt ho.size
   c0 := (ho.cell (p := ⟨g, 0, none⟩) h.lt hT).trans h.c0
   c1 := (ho.cell (p := ⟨g, 1, none⟩) h.lt hT).trans h.c1
   tab := fun j hj => by
    obtain ⟨x, hx, hx2⟩ := h.tab j hj
    exact ⟨x, (ho.cell (p := ⟨g, 3 + j, none⟩) h.lt hT).trans hx, hx2⟩
   sums := (ho.cell (p := ⟨g, 259, none⟩) h.lt hT).trans h.sums
   bytes := (ho.cell (p := ⟨g, 260, none⟩) h.lt hT).trans h.bytes
   fz := fun o => (ho.frozen (p := ⟨g, o, none⟩) h.lt hT).trans (h.fz o) }
structure JAt (w : World) (jb gd g : Nat) (s : ByteArray) : Prop where
 lt : jb < w.heap.size
 c0 : w.cell? ⟨jb, 0, none⟩ = some (.pointer (some ⟨gd, 0, none⟩))
 c1 : w.cell? ⟨jb, 1, none⟩ = some (.pointer (some ⟨g, 0, none⟩))
 c2 : w.cell? ⟨jb, 2, none⟩ = some (.string s)
theorem JAt.only {w w' : World} {jb gd g : Nat} {s : ByteArray} {T : Nat → Prop} (h : JAt w jb gd g s) (ho : Only T w w') (hT : ¬ T jb) : JAt w' jb gd g s :=
 ⟨Nat.lt_of_lt_of_le h.lt ho.size, (ho.cell (p := ⟨jb, 0, none⟩) h.lt hT).trans h.c0, (ho.cell (p := ⟨jb, 1, none⟩) h.lt hT).trans h.c1, (ho.cell (p := ⟨jb, 2, none⟩) h.lt hT).trans h.c2⟩
theorem JAt.below {w w' : World} {jb gd g : Nat} {s : ByteArray} (h : JAt w jb gd g s) (hb : Below w.heap.size w w') : JAt w' jb gd g s := h.only (Only.of_below hb fun _ => False) (fun h => h)
set_option maxRecDepth 100000 in
set_option maxHeartbeats 400000 in
theorem jopen_none {S : Nat → Prop} {gd g : Nat} {L : List (ByteArray × Fl)} {wr0 sy : Nat} (s : ByteArray) (w : World) (h : Disk w S gd L wr0 sy) (hs : s.size ≤ maxLen) (hf : findP L s = none) :
  Calls Tryz.prog 59 #[.pointer (some ⟨gd, 0, none⟩), .pointer (some ⟨g, 0, none⟩), .string s] w fun e w' => ∃ jb, e = .returned (.tuple #[.pointer (some ⟨jb, 0, none⟩), .slice none 0 0, .int .i64 0]) ∧ jb = w.heap.size ∧ JAt w' jb gd g s ∧ Below w.heap.size w w' := by
 have hb1 : Below w.heap.size w (w.alloc (.cells #[.pointer (some ⟨gd, 0, none⟩), .pointer (some ⟨g, 0, none⟩), .string s] 162)) := (Below.refl _ _).alloc (Nat.le_refl _) _
 have hR := read_none _ (h.below hb1) hs hf
 have hj : JAt (w.alloc (.cells #[.pointer (some ⟨gd, 0, none⟩), .pointer (some ⟨g, 0, none⟩), .string s] 162)) w.heap.size gd g s :=
  ⟨by simp, by rw [World.cell?_alloc_at _ _ _ _ rfl]; rfl, by rw [World.cell?_alloc_at _ _ _ _ rfl]; rfl, by rw [World.cell?_alloc_at _ _ _ _ rfl]; rfl⟩
 have HR := Lib.hid hR
 have HJ := Lib.hid hj
 have HB := Lib.hid hb1
 clear h hs hf hR hj hb1
 go_enter Tryz.func59, Tryz.ntmps59
 go_wp2_with fail
 refine HR.out.mono ?_
 rintro e w2 ⟨rfl, hb2⟩
 have HJ2 := Lib.hid (HJ.out.below hb2)
 have HB2 := Lib.hid (HB.out.trans (hb2.mono HB.out.size))
 clear hb2
 go_wp2
 go_ret3
 exact ⟨_, rfl, rfl, HJ2.out, HB2.out⟩
set_option maxRecDepth 100000 in
set_option maxHeartbeats 400000 in
theorem jname_any {jb gd g : Nat} {s : ByteArray} (w : World) (h : JAt w jb gd g s) :
  Calls Tryz.prog 63 #[.pointer (some ⟨jb, 0, none⟩)] w fun e w' => e = .returned (.string s) ∧ w = w' := by
 have j2 := h.c2
 clear h
 go_enter Tryz.func63, Tryz.ntmps63
 go_wp2
 go_ret
 exact ⟨rfl, rfl⟩
set_option maxRecDepth 100000 in
set_option maxHeartbeats 2000000 in
theorem jappend_any {jb gd g d t b : Nat} {s : ByteArray} (hd : d ≤ 1) (A : Option Addr) (n c : Nat) (l : List Nat) (B : Nat) (w : World) (h : JAt w jb gd g s) (hjg : jb ≠ g) (hT : Tab w g d t b) (hn : n = l.length) (hm : n ≤ 524288) (hs : t < 1000000000) (hbn : b < 1000000000000) (hr : RdB w B A l) (hB : B ≤ w.heap.size) (hok : OkB l) (hoff : Off A g l)
  (Z : Int) (Q : World → World → Prop) (hD : ∀ (v : Value) (w1 : World), w1.ownsRow w.heap.size 5 1 v (n + 8) (cellsB (laidR l)) → TurnsIn w w1 g (fun _ => True) → Tab w1 g 1 (t + 1) (b + 4 + n) → JAt w1 jb gd g s →
   Calls Tryz.prog 28 #[.pointer (some ⟨gd, 0, none⟩), .string s, v] w1 fun e w' => e = .returned (.int .i64 Z) ∧ (JAt w' jb gd g s ∧ Q w1 w')) :
  Calls Tryz.prog 74 #[.pointer (some ⟨jb, 0, none⟩), .slice A n c] w fun e w' => e = .returned (.int .i64 Z) ∧ ∃ w1, TurnsIn w w1 g (fun _ => True) ∧ Tab w1 g 1 (t + 1) (b + 4 + n) ∧ JAt w' jb gd g s ∧ Q w1 w' := by
 have j1 := h.c1
 have HJ := Lib.hid h
 have hL := Lib.hid (jlay_any g d t b hd A n c l B w hT hn hm hs hbn hr hB hok hoff)
 have HD := Lib.hid hD
 clear h hT hn hr hok hoff hD hs hbn
 go_enter Tryz.func74, Tryz.ntmps74
 go_wp2_with fail
 refine hL.out.mono ?_
 rintro e w1 ⟨v, rfl, ho, ht, hT1⟩
 have HO := Lib.hid ho
 have Ht := Lib.hid ht
 have HT1 := Lib.hid hT1
 have HJ1 := Lib.hid (HJ.out.only ht.only hjg)
 clear ho ht hT1 j1
 have j0 := HJ1.out.c0
 have j1 := HJ1.out.c1
 have j2 := HJ1.out.c2
 have HDd := Lib.hid (HD.out v w1.drew (ownB_below HO.out (Below.refl _ _).drew) Ht.out.drew HT1.out.drew (HJ1.out.below (Below.refl _ _).drew))
 go_upto_region 6 with fail
 refine wp_region_noPanic ?_
 refine wp_region_held_drew (S := fun W => W.cell? ⟨jb, 0, none⟩ = some (.pointer (some ⟨gd, 0, none⟩)) ∧ W.cell? ⟨jb, 1, none⟩ = some (.pointer (some ⟨g, 0, none⟩)) ∧ W.cell? ⟨jb, 2, none⟩ = some (.string s)) (by kernel_rfl) ?_ (fun hHeld => ?_)
 ·exact ⟨j0, j1, j2⟩
 try simp only [heldPut, List.set]
 refine hT 0 (v := ?_) rfl (Or.inl ⟨by rfl, ?_⟩) ?_
 rotate_left
 ·(intro W hSw; (try dsimp only at hSw); obtain ⟨f0, f1, f2⟩ := hSw; go_simp; try with_reducible rfl)
 try simp only [heldPut, List.set]
 refine hT 1 (v := ?_) rfl (Or.inl ⟨by rfl, ?_⟩) ?_
 rotate_left
 ·(intro W hSw; (try dsimp only at hSw); obtain ⟨f0, f1, f2⟩ := hSw; go_simp; try with_reducible rfl)
 try simp only [heldPut, List.set]
 refine hT 2 (v := ?_) rfl (Or.inl ⟨by rfl, ?_⟩) ?_
 rotate_left
 ·(intro W hSw; (try dsimp only at hSw); obtain ⟨f0, f1, f2⟩ := hSw; go_simp; try with_reducible rfl)
 try simp only [heldPut, List.set]
 refine hT 3 (v := ?_) rfl (Or.inl ⟨by rfl, ?_⟩) ?_
 rotate_left
 ·(intro W hSw; (try dsimp only at hSw); obtain ⟨f0, f1, f2⟩ := hSw; go_simp; try with_reducible rfl)
 try simp only [heldPut, List.set]
 refine hT 4 (v := ?_) rfl (Or.inl ⟨by rfl, ?_⟩) ?_
 rotate_left
 ·(intro W hSw; (try dsimp only at hSw); obtain ⟨f0, f1, f2⟩ := hSw; go_simp; try with_reducible rfl)
 try simp only [heldPut, List.set]
 refine hT 5 (v := ?_) rfl (Or.inl ⟨by rfl, ?_⟩) ?_
 rotate_left
 ·(intro W hSw; (try dsimp only at hSw); obtain ⟨f0, f1, f2⟩ := hSw; go_simp; try with_reducible rfl)
 try simp only [heldPut, List.set]
 refine hT 6 (v := ?_) rfl (Or.inl ⟨by rfl, ?_⟩) ?_
 rotate_left
 ·(intro W hSw; (try dsimp only at hSw); obtain ⟨f0, f1, f2⟩ := hSw; go_simp; try with_reducible rfl)
 try simp only [heldPut, List.set]
 refine hT 7 (v := ?_) rfl (Or.inl ⟨by rfl, ?_⟩) ?_
 rotate_left
 ·(intro W hSw; (try dsimp only at hSw); obtain ⟨f0, f1, f2⟩ := hSw; go_simp; try with_reducible rfl)
 try simp only [heldPut, List.set]
 refine hT 8 (v := ?_) rfl (Or.inl ⟨by rfl, ?_⟩) ?_
 rotate_left
 ·(intro W hSw; (try dsimp only at hSw); obtain ⟨f0, f1, f2⟩ := hSw; go_simp; try with_reducible rfl)
 try simp only [heldPut, List.set]
 refine heldOne (i := 9) rfl (by kernel_rfl) (fun K hK => ?_)
 go_simp
 refine HDd.out.mono ?_
 rintro e w2 ⟨rfl, hq⟩
 have Hq := Lib.hid hq
 clear hq
 go_wp2_with fail
 refine hK.out _ _ ?_ (fun hHeld => ?_)
 ·exact ⟨Hq.out.1.c0, Hq.out.1.c1, Hq.out.1.c2⟩
 clear hK K
 try simp only [heldPut, List.set]
 refine hT 10 (v := ?_) rfl (Or.inl ⟨by rfl, ?_⟩) ?_
 rotate_left
 ·(intro W hSw; (try dsimp only at hSw);  go_simp; try with_reducible rfl)
 try simp only [heldPut, List.set]
 refine wpAnyH_done (by kernel_rfl) ?_ _
 refine NoPanic.normal ?_
 go_wp2
 go_ret
 exact ⟨rfl, w1.drew, Ht.out.drew, HT1.out.drew, Hq.out.1, Hq.out.2⟩
set_option maxRecDepth 100000 in
set_option maxHeartbeats 1000000 in
theorem jsync_idle {jb gd g : Nat} {s : ByteArray} (w : World) (h : JAt w jb gd g s) (hL : ∀ w1 : World, Below w.heap.size w w1 → Calls Tryz.prog 89 #[.pointer (some ⟨gd, 0, none⟩), .string s] w1 fun e w' => e = .returned (.int .i64 0) ∧ Below w1.heap.size w1 w') :
  Calls Tryz.prog 43 #[.pointer (some ⟨jb, 0, none⟩)] w fun e w' => e = .returned (.int .i64 0) ∧ Below w.heap.size w w' := by
 have j0 := h.c0
 have j1 := h.c1
 have j2 := h.c2
 have HJ := Lib.hid h
 have HL := Lib.hid (hL w.drew (Below.refl _ _).drew)
 clear h hL
 go_enter Tryz.func43, Tryz.ntmps43
 go_upto_region 3 with fail
 refine wp_region_noPanic ?_
 refine wp_region_held_drew (S := fun W => W.cell? ⟨jb, 0, none⟩ = some (.pointer (some ⟨gd, 0, none⟩)) ∧ W.cell? ⟨jb, 1, none⟩ = some (.pointer (some ⟨g, 0, none⟩)) ∧ W.cell? ⟨jb, 2, none⟩ = some (.string s)) (by kernel_rfl) ?_ (fun hHeld => ?_)
 ·exact ⟨j0, j1, j2⟩
 try simp only [heldPut, List.set]
 refine hT 0 (v := ?_) rfl (Or.inl ⟨by rfl, ?_⟩) ?_
 rotate_left
 ·(intro W hSw; (try dsimp only at hSw); obtain ⟨f0, f1, f2⟩ := hSw; go_simp; try with_reducible rfl)
 try simp only [heldPut, List.set]
 refine hT 1 (v := ?_) rfl (Or.inl ⟨by rfl, ?_⟩) ?_
 rotate_left
 ·(intro W hSw; (try dsimp only at hSw); obtain ⟨f0, f1, f2⟩ := hSw; go_simp; try with_reducible rfl)
 try simp only [heldPut, List.set]
 refine hT 2 (v := ?_) rfl (Or.inl ⟨by rfl, ?_⟩) ?_
 rotate_left
 ·(intro W hSw; (try dsimp only at hSw); obtain ⟨f0, f1, f2⟩ := hSw; go_simp; try with_reducible rfl)
 try simp only [heldPut, List.set]
 refine hT 3 (v := ?_) rfl (Or.inl ⟨by rfl, ?_⟩) ?_
 rotate_left
 ·(intro W hSw; (try dsimp only at hSw); obtain ⟨f0, f1, f2⟩ := hSw; go_simp; try with_reducible rfl)
 try simp only [heldPut, List.set]
 refine hT 4 (v := ?_) rfl (Or.inl ⟨by rfl, ?_⟩) ?_
 rotate_left
 ·(intro W hSw; (try dsimp only at hSw); obtain ⟨f0, f1, f2⟩ := hSw; go_simp; try with_reducible rfl)
 try simp only [heldPut, List.set]
 refine hT 5 (v := ?_) rfl (Or.inl ⟨by rfl, ?_⟩) ?_
 rotate_left
 ·(intro W hSw; (try dsimp only at hSw); obtain ⟨f0, f1, f2⟩ := hSw; go_simp; try with_reducible rfl)
 try simp only [heldPut, List.set]
 refine hT 6 (v := ?_) rfl (Or.inl ⟨by rfl, ?_⟩) ?_
 rotate_left
 ·(intro W hSw; (try dsimp only at hSw); obtain ⟨f0, f1, f2⟩ := hSw; go_simp; try with_reducible rfl)
 try simp only [heldPut, List.set]
 refine hT 7 (v := ?_) rfl (Or.inl ⟨by rfl, ?_⟩) ?_
 rotate_left
 ·(intro W hSw; (try dsimp only at hSw); obtain ⟨f0, f1, f2⟩ := hSw; go_simp; try with_reducible rfl)
 try simp only [heldPut, List.set]
 refine heldOne (i := 8) rfl (by kernel_rfl) (fun K hK => ?_)
 go_simp
 refine HL.out.mono ?_
 rintro e w2 ⟨rfl, hb2⟩
 have Hb2 := Lib.hid ((Below.refl _ _).drew.trans (hb2.mono (Nat.le_refl _)) : Below w.heap.size w w2)
 have HJ2 := Lib.hid (HJ.out.below Hb2.out)
 clear hb2
 go_wp2_with fail
 refine hK.out _ _ ?_ (fun hHeld => ?_)
 ·exact ⟨HJ2.out.c0, HJ2.out.c1, HJ2.out.c2⟩
 clear hK K
 try simp only [heldPut, List.set]
 refine hT 9 (v := ?_) rfl (Or.inl ⟨by rfl, ?_⟩) ?_
 rotate_left
 ·(intro W hSw; (try dsimp only at hSw);  go_simp; try with_reducible rfl)
 try simp only [heldPut, List.set]
 refine wpAnyH_done (by kernel_rfl) ?_ _
 refine NoPanic.normal ?_
 go_wp2
 go_ret
 exact ⟨rfl, Hb2.out⟩
set_option maxRecDepth 100000 in
set_option maxHeartbeats 1000000 in
theorem jsync_busy {jb gd g k : Nat} {s : ByteArray} (w : World) (h : JAt w jb gd g s) (hk : 0 < k) (hL : ∀ w1 : World, Below w.heap.size w w1 → Calls Tryz.prog 89 #[.pointer (some ⟨gd, 0, none⟩), .string s] w1 fun e w' => e = .returned (.int .i64 k) ∧ Below w1.heap.size w1 w')
  (Q : World → World → Prop) (hS : ∀ w1 : World, Below w.heap.size w w1 → Calls Tryz.prog 87 #[.pointer (some ⟨gd, 0, none⟩), .string s] w1 fun e w' => e = .returned (.int .i64 0) ∧ (JAt w' jb gd g s ∧ Q w1 w')) :
  Calls Tryz.prog 43 #[.pointer (some ⟨jb, 0, none⟩)] w fun e w' => e = .returned (.int .i64 0) ∧ ∃ w1, Below w.heap.size w w1 ∧ JAt w' jb gd g s ∧ Q w1 w' := by
 have j0 := h.c0
 have j1 := h.c1
 have j2 := h.c2
 have HJ := Lib.hid h
 have HL := Lib.hid (hL w.drew (Below.refl _ _).drew)
 have HS := Lib.hid hS
 have hk1 : ((k : Int) == 0) = false := by rw [beq_eq_false_iff_ne]; omega
 clear h hL hS
 go_enter Tryz.func43, Tryz.ntmps43
 go_upto_region 3 with fail
 refine wp_region_noPanic ?_
 refine wp_region_held_drew (S := fun W => W.cell? ⟨jb, 0, none⟩ = some (.pointer (some ⟨gd, 0, none⟩)) ∧ W.cell? ⟨jb, 1, none⟩ = some (.pointer (some ⟨g, 0, none⟩)) ∧ W.cell? ⟨jb, 2, none⟩ = some (.string s)) (by kernel_rfl) ?_ (fun hHeld => ?_)
 ·exact ⟨j0, j1, j2⟩
 try simp only [heldPut, List.set]
 refine hT 0 (v := ?_) rfl (Or.inl ⟨by rfl, ?_⟩) ?_
 rotate_left
 ·(intro W hSw; (try dsimp only at hSw); obtain ⟨f0, f1, f2⟩ := hSw; go_simp; try with_reducible rfl)
 try simp only [heldPut, List.set]
 refine hT 1 (v := ?_) rfl (Or.inl ⟨by rfl, ?_⟩) ?_
 rotate_left
 ·(intro W hSw; (try dsimp only at hSw); obtain ⟨f0, f1, f2⟩ := hSw; go_simp; try with_reducible rfl)
 try simp only [heldPut, List.set]
 refine hT 2 (v := ?_) rfl (Or.inl ⟨by rfl, ?_⟩) ?_
 rotate_left
 ·(intro W hSw; (try dsimp only at hSw); obtain ⟨f0, f1, f2⟩ := hSw; go_simp; try with_reducible rfl)
 try simp only [heldPut, List.set]
 refine hT 3 (v := ?_) rfl (Or.inl ⟨by rfl, ?_⟩) ?_
 rotate_left
 ·(intro W hSw; (try dsimp only at hSw); obtain ⟨f0, f1, f2⟩ := hSw; go_simp; try with_reducible rfl)
 try simp only [heldPut, List.set]
 refine hT 4 (v := ?_) rfl (Or.inl ⟨by rfl, ?_⟩) ?_
 rotate_left
 ·(intro W hSw; (try dsimp only at hSw); obtain ⟨f0, f1, f2⟩ := hSw; go_simp; try with_reducible rfl)
 try simp only [heldPut, List.set]
 refine hT 5 (v := ?_) rfl (Or.inl ⟨by rfl, ?_⟩) ?_
 rotate_left
 ·(intro W hSw; (try dsimp only at hSw); obtain ⟨f0, f1, f2⟩ := hSw; go_simp; try with_reducible rfl)
 try simp only [heldPut, List.set]
 refine hT 6 (v := ?_) rfl (Or.inl ⟨by rfl, ?_⟩) ?_
 rotate_left
 ·(intro W hSw; (try dsimp only at hSw); obtain ⟨f0, f1, f2⟩ := hSw; go_simp; try with_reducible rfl)
 try simp only [heldPut, List.set]
 refine hT 7 (v := ?_) rfl (Or.inl ⟨by rfl, ?_⟩) ?_
 rotate_left
 ·(intro W hSw; (try dsimp only at hSw); obtain ⟨f0, f1, f2⟩ := hSw; go_simp; try with_reducible rfl)
 try simp only [heldPut, List.set]
 refine heldOne (i := 8) rfl (by kernel_rfl) (fun K hK => ?_)
 go_simp
 refine HL.out.mono ?_
 rintro e w2 ⟨rfl, hb2⟩
 have Hb2 := Lib.hid ((Below.refl _ _).drew.trans (hb2.mono (Nat.le_refl _)) : Below w.heap.size w w2)
 have HJ2 := Lib.hid (HJ.out.below Hb2.out)
 clear hb2
 go_wp2_with fail
 refine hK.out _ _ ?_ (fun hHeld => ?_)
 ·exact ⟨HJ2.out.c0, HJ2.out.c1, HJ2.out.c2⟩
 clear hK K
 try simp only [heldPut, List.set]
 refine hT 9 (v := ?_) rfl (Or.inl ⟨by rfl, ?_⟩) ?_
 rotate_left
 ·(intro W hSw; (try dsimp only at hSw);  go_simp; try with_reducible rfl)
 try simp only [heldPut, List.set]
 refine wpAnyH_done (by kernel_rfl) ?_ _
 refine NoPanic.normal ?_
 clear j0 j1 j2
 have j0 := HJ2.out.c0
 have j1 := HJ2.out.c1
 have j2 := HJ2.out.c2
 have HSd := Lib.hid (HS.out w2.drew (Hb2.out.drew))
 go_upto_region 5 with fail
 refine wp_region_noPanic ?_
 refine wp_region_held_drew (S := fun W => W.cell? ⟨jb, 0, none⟩ = some (.pointer (some ⟨gd, 0, none⟩)) ∧ W.cell? ⟨jb, 1, none⟩ = some (.pointer (some ⟨g, 0, none⟩)) ∧ W.cell? ⟨jb, 2, none⟩ = some (.string s)) (by kernel_rfl) ?_ (fun hHeld => ?_)
 ·exact ⟨j0, j1, j2⟩
 try simp only [heldPut, List.set]
 refine hT 0 (v := ?_) rfl (Or.inl ⟨by rfl, ?_⟩) ?_
 rotate_left
 ·(intro W hSw; (try dsimp only at hSw); obtain ⟨f0, f1, f2⟩ := hSw; go_simp; try with_reducible rfl)
 try simp only [heldPut, List.set]
 refine hT 1 (v := ?_) rfl (Or.inl ⟨by rfl, ?_⟩) ?_
 rotate_left
 ·(intro W hSw; (try dsimp only at hSw); obtain ⟨f0, f1, f2⟩ := hSw; go_simp; try with_reducible rfl)
 try simp only [heldPut, List.set]
 refine hT 2 (v := ?_) rfl (Or.inl ⟨by rfl, ?_⟩) ?_
 rotate_left
 ·(intro W hSw; (try dsimp only at hSw); obtain ⟨f0, f1, f2⟩ := hSw; go_simp; try with_reducible rfl)
 try simp only [heldPut, List.set]
 refine hT 3 (v := ?_) rfl (Or.inl ⟨by rfl, ?_⟩) ?_
 rotate_left
 ·(intro W hSw; (try dsimp only at hSw); obtain ⟨f0, f1, f2⟩ := hSw; go_simp; try with_reducible rfl)
 try simp only [heldPut, List.set]
 refine hT 4 (v := ?_) rfl (Or.inl ⟨by rfl, ?_⟩) ?_
 rotate_left
 ·(intro W hSw; (try dsimp only at hSw); obtain ⟨f0, f1, f2⟩ := hSw; go_simp; try with_reducible rfl)
 try simp only [heldPut, List.set]
 refine hT 5 (v := ?_) rfl (Or.inl ⟨by rfl, ?_⟩) ?_
 rotate_left
 ·(intro W hSw; (try dsimp only at hSw); obtain ⟨f0, f1, f2⟩ := hSw; go_simp; try with_reducible rfl)
 try simp only [heldPut, List.set]
 refine hT 6 (v := ?_) rfl (Or.inl ⟨by rfl, ?_⟩) ?_
 rotate_left
 ·(intro W hSw; (try dsimp only at hSw); obtain ⟨f0, f1, f2⟩ := hSw; go_simp; try with_reducible rfl)
 try simp only [heldPut, List.set]
 refine hT 7 (v := ?_) rfl (Or.inl ⟨by rfl, ?_⟩) ?_
 rotate_left
 ·(intro W hSw; (try dsimp only at hSw); obtain ⟨f0, f1, f2⟩ := hSw; go_simp; try with_reducible rfl)
 try simp only [heldPut, List.set]
 refine heldOne (i := 8) rfl (by kernel_rfl) (fun K hK => ?_)
 go_simp
 refine HSd.out.mono ?_
 rintro e w3 ⟨rfl, hq⟩
 have Hq := Lib.hid hq
 clear hq
 go_wp2_with fail
 refine hK.out _ _ ?_ (fun hHeld => ?_)
 ·exact ⟨Hq.out.1.c0, Hq.out.1.c1, Hq.out.1.c2⟩
 clear hK K
 try simp only [heldPut, List.set]
 refine hT 9 (v := ?_) rfl (Or.inl ⟨by rfl, ?_⟩) ?_
 rotate_left
 ·(intro W hSw; (try dsimp only at hSw);  go_simp; try with_reducible rfl)
 try simp only [heldPut, List.set]
 refine wpAnyH_done (by kernel_rfl) ?_ _
 refine NoPanic.normal ?_
 go_wp2
 go_ret
 exact ⟨rfl, w2.drew, Hb2.out.drew, Hq.out.1, Hq.out.2⟩
set_option maxRecDepth 100000 in
set_option maxHeartbeats 1000000 in
theorem jsize_any {jb gd g n : Nat} {z : Int} {s : ByteArray} (w : World) (h : JAt w jb gd g s) (hR : ∀ w1 : World, Below w.heap.size w w1 → Calls Tryz.prog 83 #[.pointer (some ⟨gd, 0, none⟩), .string s] w1 fun e w' => ∃ A c, e = .returned (.tuple #[.slice A n c, .int .i64 z]) ∧ Below w1.heap.size w1 w') :
  Calls Tryz.prog 41 #[.pointer (some ⟨jb, 0, none⟩)] w fun e w' => e = .returned (.int .i64 n) ∧ Below w.heap.size w w' := by
 have j0 := h.c0
 have j1 := h.c1
 have j2 := h.c2
 have HJ := Lib.hid h
 have HR := Lib.hid (hR w.drew (Below.refl _ _).drew)
 clear h hR
 go_enter Tryz.func41, Tryz.ntmps41
 go_upto_region 3 with fail
 refine wp_region_noPanic ?_
 refine wp_region_held_drew (S := fun W => W.cell? ⟨jb, 0, none⟩ = some (.pointer (some ⟨gd, 0, none⟩)) ∧ W.cell? ⟨jb, 1, none⟩ = some (.pointer (some ⟨g, 0, none⟩)) ∧ W.cell? ⟨jb, 2, none⟩ = some (.string s)) (by kernel_rfl) ?_ (fun hHeld => ?_)
 ·exact ⟨j0, j1, j2⟩
 try simp only [heldPut, List.set]
 refine hT 0 (v := ?_) rfl (Or.inl ⟨by rfl, ?_⟩) ?_
 rotate_left
 ·(intro W hSw; (try dsimp only at hSw); obtain ⟨f0, f1, f2⟩ := hSw; go_simp; try with_reducible rfl)
 try simp only [heldPut, List.set]
 refine hT 1 (v := ?_) rfl (Or.inl ⟨by rfl, ?_⟩) ?_
 rotate_left
 ·(intro W hSw; (try dsimp only at hSw); obtain ⟨f0, f1, f2⟩ := hSw; go_simp; try with_reducible rfl)
 try simp only [heldPut, List.set]
 refine hT 2 (v := ?_) rfl (Or.inl ⟨by rfl, ?_⟩) ?_
 rotate_left
 ·(intro W hSw; (try dsimp only at hSw); obtain ⟨f0, f1, f2⟩ := hSw; go_simp; try with_reducible rfl)
 try simp only [heldPut, List.set]
 refine hT 3 (v := ?_) rfl (Or.inl ⟨by rfl, ?_⟩) ?_
 rotate_left
 ·(intro W hSw; (try dsimp only at hSw); obtain ⟨f0, f1, f2⟩ := hSw; go_simp; try with_reducible rfl)
 try simp only [heldPut, List.set]
 refine hT 4 (v := ?_) rfl (Or.inl ⟨by rfl, ?_⟩) ?_
 rotate_left
 ·(intro W hSw; (try dsimp only at hSw); obtain ⟨f0, f1, f2⟩ := hSw; go_simp; try with_reducible rfl)
 try simp only [heldPut, List.set]
 refine hT 5 (v := ?_) rfl (Or.inl ⟨by rfl, ?_⟩) ?_
 rotate_left
 ·(intro W hSw; (try dsimp only at hSw); obtain ⟨f0, f1, f2⟩ := hSw; go_simp; try with_reducible rfl)
 try simp only [heldPut, List.set]
 refine hT 6 (v := ?_) rfl (Or.inl ⟨by rfl, ?_⟩) ?_
 rotate_left
 ·(intro W hSw; (try dsimp only at hSw); obtain ⟨f0, f1, f2⟩ := hSw; go_simp; try with_reducible rfl)
 try simp only [heldPut, List.set]
 refine hT 7 (v := ?_) rfl (Or.inl ⟨by rfl, ?_⟩) ?_
 rotate_left
 ·(intro W hSw; (try dsimp only at hSw); obtain ⟨f0, f1, f2⟩ := hSw; go_simp; try with_reducible rfl)
 try simp only [heldPut, List.set]
 refine heldOne (i := 8) rfl (by kernel_rfl) (fun K hK => ?_)
 go_simp
 refine HR.out.mono ?_
 rintro e w2 ⟨A6, c6, rfl, hb2⟩
 have Hb2 := Lib.hid ((Below.refl _ _).drew.trans (hb2.mono (Nat.le_refl _)) : Below w.heap.size w w2)
 have HJ2 := Lib.hid (HJ.out.below Hb2.out)
 clear hb2
 go_wp2_with fail
 refine hK.out _ _ ?_ (fun hHeld => ?_)
 ·exact ⟨HJ2.out.c0, HJ2.out.c1, HJ2.out.c2⟩
 clear hK K
 try simp only [heldPut, List.set]
 refine hT 9 (v := ?_) rfl (Or.inl ⟨by rfl, ?_⟩) ?_
 rotate_left
 ·(intro W hSw; (try dsimp only at hSw);  go_simp; try with_reducible rfl)
 try simp only [heldPut, List.set]
 refine hT 10 (v := ?_) rfl (Or.inl ⟨by rfl, ?_⟩) ?_
 rotate_left
 ·(intro W hSw; (try dsimp only at hSw);  go_simp; try with_reducible rfl)
 try simp only [heldPut, List.set]
 refine hT 11 (v := ?_) rfl (Or.inl ⟨by rfl, ?_⟩) ?_
 rotate_left
 ·(intro W hSw; (try dsimp only at hSw);  go_simp; try with_reducible rfl)
 try simp only [heldPut, List.set]
 refine hT 12 (v := ?_) rfl (Or.inl ⟨by rfl, ?_⟩) ?_
 rotate_left
 ·(intro W hSw; (try dsimp only at hSw);  go_simp; try with_reducible rfl)
 try simp only [heldPut, List.set]
 refine hT 13 (v := ?_) rfl (Or.inl ⟨by rfl, ?_⟩) ?_
 rotate_left
 ·(intro W hSw; (try dsimp only at hSw);  go_simp; try with_reducible rfl)
 try simp only [heldPut, List.set]
 refine wpAnyH_done (by kernel_rfl) ?_ _
 refine NoPanic.normal ?_
 go_wp2
 go_ret
 exact ⟨rfl, Hb2.out⟩
end Go.Proofs.YtholdcgkhicdmaaGreatDoor