/- Layer 7: journal.Scan. -/
import Derived.Test.YtgcfofnlgdfmoaaJlRows
import Derived.Test.YtgcfofnlgdfmoaaDkRead
namespace Go.Proofs.Ytgcfofnlgdfmoaa
open Go.RowKit

theorem TurnsIn.row {w w3 w4 : World} {g : Nat} {P : Nat → Prop} {row : Option Nat} (h : TurnsIn w w3 g P) (hgl : g < w3.heap.size) (hg : w3.grownBy w4 row) (hr : ∀ k, row = some k → w.heap.size ≤ k ∧ k ≠ g) : TurnsIn w w4 g P :=
  ⟨⟨hg.os.trans h.grown.os, hg.tape.trans h.grown.tape, hg.output.trans h.grown.output, Nat.le_trans h.grown.size hg.size, fun k hk hne => (hg.block k (Nat.lt_of_lt_of_le hk h.grown.size) (fun e => by have := (hr k e.symm).1; omega)).trans (h.grown.block k hk hne)⟩,
    fun o ho => (World.cell?_of_block (w := w3) (w' := w4) (a := ⟨g, o, none⟩) (hg.block g hgl (fun e => (hr g e.symm).2 rfl))).trans (h.cell o ho),
    fun o => (World.frozen?_of_block (w := w3) (w' := w4) (a := ⟨g, o, none⟩) (hg.block g hgl (fun e => (hr g e.symm).2 rfl))).trans (h.fz o)⟩
theorem Tab.row {w3 w4 : World} {g d s b : Nat} {row : Option Nat} (h : Tab w3 g d s b) (hg : w3.grownBy w4 row) (hr : row ≠ some g) : Tab w4 g d s b :=
  have hc : ∀ o, w4.cell? ⟨g, o, none⟩ = w3.cell? ⟨g, o, none⟩ := fun o => World.cell?_of_block (w := w3) (w' := w4) (a := ⟨g, o, none⟩) (hg.block g h.lt (fun e => hr e.symm))
  { lt := Nat.lt_of_lt_of_le h.lt hg.size
    c0 := (hc 0).trans h.c0
    c1 := (hc 1).trans h.c1
    tab := fun j hj => by
      obtain ⟨x, hx, hx2⟩ := h.tab j hj
      exact ⟨x, (hc _).trans hx, hx2⟩
    sums := (hc 259).trans h.sums
    bytes := (hc 260).trans h.bytes
    fz := fun o => (World.frozen?_of_block (w := w3) (w' := w4) (a := ⟨g, o, none⟩) (hg.block g h.lt (fun e => hr e.symm))).trans (h.fz o) }

set_option maxRecDepth 100000 in
set_option maxHeartbeats 400000 in
theorem jscan_nil (A : Option Addr) (n c : Nat) (w : World) :
    Calls Try.prog 38 #[.pointer none, .slice A n c] w fun e w' => e = .returned (.tuple #[.slice none 0 0, .int .i64 0]) ∧ w = w' := by
  have s0 := fun w => slB_l A n c 0 0 rfl (Nat.zero_le _) w
  have hJ := Lib.hid (fun (v : Value) (w : World) => jtake_nil v w)
  go_enter Try.func38, Try.ntmps38
  go_wp2
  refine wp_loop_rounds 1 ?_
  rw [rounds_succ]
  go_wp2_with fail
  refine (hJ.out _ _).mono ?_
  rintro e w1 ⟨rfl, rfl⟩
  go_wp2
  go_ret2
  exact ⟨rfl, rfl⟩

set_option maxRecDepth 100000 in
set_option maxHeartbeats 2000000 in
theorem jscan_any (g d s t : Nat) (hd : d ≤ 1) (A : Option Addr) (n c : Nat) (l : List Nat) (B : Nat) (w : World) (h : Tab w g d s t) (hn : n = l.length) (hc : n ≤ c) (hm : n ≤ 100000000) (hs : s < 500000000) (htb : t < 500000000000) (hr : RdB w B A l) (hB : B ≤ w.heap.size) (hok : OkB l) (hoff : Off A g l) :
    Calls Try.prog 38 #[.pointer (some ⟨g, 0, none⟩), .slice A n c] w fun e w' => ∃ v, e = .returned (.tuple #[v, .int .i64 (scanJ l).2]) ∧ Rs w' w.heap.size g v (scanJ l).1 ∧ (∃ d' s' t', d' ≤ 1 ∧ s' ≤ s + n + 1 ∧ t' ≤ t + 2 * n ∧ Tab w' g d' s' t') ∧ TurnsIn w w' g (fun _ => True) := by
  obtain ⟨i0, hi0, hz0, hz1, hz2⟩ := info_parts Try.infoSl
  have HT := Lib.hid h
  have Hn := Lib.hid hn
  have Hr := Lib.hid hr
  have Hok := Lib.hid hok
  have Hoff := Lib.hid hoff
  have hgw := h.lt
  clear h hn hr hok hoff
  go_enter Try.func38, Try.ntmps38
  go_wp2
  go_loopw [6, 7] (fun cv ev wx => ∃ (k : Nat) (L : List (List Nat)) (d' s' t' : Nat), k ≤ n ∧ ev = .int .i64 k ∧ L.length ≤ k ∧ d' ≤ 1 ∧ s' ≤ s + k ∧ t' ≤ t + k ∧ Hid (scanJ l = (L ++ (scanJ (l.drop k)).1, k + (scanJ (l.drop k)).2)) ∧ Hid (Rs wx w.heap.size g cv L) ∧ Hid (Tab wx g d' s' t') ∧ Hid (TurnsIn w wx g (fun _ => True))) (fun _ ev _ => n - (intOf ev).toNat)
  case atStart => exact ⟨0, [], d, s, t, Nat.zero_le _, rfl, Nat.le_refl _, hd, Nat.le_refl _, Nat.le_refl _, by show _ = _; rw [List.drop_zero]; simp, Rs.nil _ _ _, HT.out, TurnsIn.refl _ _ _⟩
  case round =>
    obtain ⟨k, L, d', s', t', hk, rfl, hLk, hd', hs', ht', Hsc, HRs, HT', Htu⟩ := hrel
    have sk := fun w => slB_l A n c k k rfl hk w
    have hnk : n - k = (l.drop k).length := by rw [List.length_drop, ← Hn.out]
    have hJ := jtake_any g d' s' t' hd' (subA A c k) (n - k) (c - k) (l.drop k) B wr HT'.out hnk (by omega) (by omega) (by omega) (by omega) ((Hr.out.turned Hoff.out Htu.out).sub (by have := Hn.out; omega)) (Nat.le_trans hB Htu.out.grown.size) (Hok.out.drop k) Hoff.out.sub
    have HJ := Lib.hid hJ
    have Hnk := Lib.hid hnk
    obtain ⟨A6, c6, rfl⟩ := HRs.out.slice
    clear hJ hnk
    go_wp2_with fail
    refine HJ.out.mono ?_
    rintro e w2 (⟨hno, rfl, ⟨d2, s2, t2, hd2, hs2, ht2, hT2⟩, htu2⟩ | ⟨x, v, hyes, rfl, hown, hT2, htu2⟩)
    · have HT2 := Lib.hid hT2
      have Htu2 := Lib.hid htu2
      have Hno := Lib.hid hno
      clear hT2 htu2 hno
      go_wp2
      go_ret2
      refine ⟨.slice A6 L.length c6, ?_, ?_, ⟨d2, s2, t2, hd2, by omega, by omega, HT2.out⟩, Htu.out.trans Htu2.out⟩
      · rw [Hsc.out, scanJ_none Hno.out]; rfl
      · have := HRs.out.turned Htu2.out
        rw [Hsc.out, scanJ_none Hno.out, List.append_nil]
        exact this
    · obtain ⟨Ax, cx, rfl⟩ := ownB_slice hown
      obtain ⟨r1, r2, r3⟩ := rdB_of_own hown
      have hxl := takeJ_long hyes
      have hxl2 : x.length + 8 ≤ n - k := by rw [Hnk.out]; exact hxl
      have hokx : OkB x := by
        obtain ⟨e1, _⟩ := takeJ_some (Hok.out.drop k) hyes
        intro z hz
        refine (Hok.out.drop k) z ?_
        rw [e1]; simp [laidR, hz]
      have hRs2 := HRs.out.turned htu2
      have hsz2 := htu2.grown.size
      have hfar : ∀ a, Ax = some a → 0 < x.length → w.heap.size ≤ a.block ∧ a.block ≠ g ∧ (Value.slice A6 L.length c6).ownBlock ≠ some a.block := fun a ha h0 => by
        obtain ⟨g', cap, hv, hge, hlt⟩ := hown.form (by omega)
        injection hv with hv
        rw [ha] at hv
        injection hv with hv
        have hblk : a.block = g' := by rw [hv]
        have h1 := Htu.out.grown.size
        have h2 := HT'.out.lt
        refine ⟨by omega, by omega, fun e => ?_⟩
        obtain ⟨X, hX⟩ := HRs.out
        have := (hX.own.lt _ e).2
        omega
      obtain ⟨X, hX⟩ := hRs2
      have hb3 : Below w2.heap.size w2 (w2.alloc (.cells #[.slice Ax x.length cx] 37)) := (Below.refl _ _).alloc (Nat.le_refl _) _
      have hsrc : Src (w2.alloc (.cells #[.slice Ax x.length cx] 37)) (some ⟨w2.heap.size, 0, none⟩) 1 1 [.slice Ax x.length cx] := ⟨rfl, fun _ => ⟨_, rfl, fun j u hj => by
        cases j with
        | zero => simp at hj; subst hj; rw [Addr.add_lit, World.cell?_alloc_at _ _ _ _ rfl]; rfl
        | succ j => simp at hj⟩⟩
      obtain ⟨X3, hX3⟩ : ∃ X3, RsX (w2.alloc (.cells #[.slice Ax x.length cx] 37)) w.heap.size g (.slice A6 L.length c6) X3 L := Rs.below ⟨X, hX⟩ hb3
      have HX3 := Lib.hid hX3
      have HSrc := Lib.hid hsrc
      have HT2 := Lib.hid (hT2.below hb3)
      have Htu2 := Lib.hid (Htu.out.trans (htu2.trans (TurnsIn.of_below (P := fun _ => True) hT2.lt hb3)))
      have Hyes := Lib.hid hyes
      have Hrd := Lib.hid ((r1.below hb3).more hb3.size)
      have Hfar := Lib.hid hfar
      have Hokx := Lib.hid hokx
      have hgw2 : g < (w2.alloc (.cells #[.slice Ax x.length cx] 37)).heap.size := Nat.lt_of_lt_of_le hT2.lt hb3.size
      have hbase : w.heap.size ≤ (w2.alloc (.cells #[.slice Ax x.length cx] 37)).heap.size := Nat.le_trans Htu.out.grown.size (Nat.le_trans hsz2 hb3.size)
      have Hnil : Hid (Ax = none → x.length = 0) := r3
      clear hown r1 r2 r3 hX hX3 hsrc hT2 htu2 hyes hfar hokx hxl
      go_wp2_with (at_builtin; refine wpList_append_src (base := w.heap.size) rfl _ _ rfl Try.underlying22 hi0 hz0 hz1 hz2 rfl (by decide) rfl HX3.out.own rfl HSrc.out (fun u hu => by simp at hu; rw [hu]; rfl) (by unfold maxLen; omega) (by omega) hbase ?_; intro v4 w4 ho4 hg4 hb4; replace ho4 := Lib.hid ho4; replace hg4 := Lib.hid hg4; replace hb4 := Lib.hid hb4)
      have hRs4 : Hid (Rs w4 w.heap.size g v4 (L ++ [x])) := Rs.app ⟨X3, HX3.out⟩ hgw2 rfl Hnil.out Hrd.out Hokx.out Hfar.out HX3.out ho4.out hg4.out hb4.out
      have Hsc2 : Hid (scanJ l = ((L ++ [x]) ++ (scanJ (l.drop (k + (x.length + 8)))).1, (k + (x.length + 8)) + (scanJ (l.drop (k + (x.length + 8)))).2)) := by
        show _ = _
        rw [Hsc.out, scanJ_some Hyes.out, List.drop_drop]
        simp only [List.append_assoc, List.cons_append, List.nil_append, Nat.add_assoc]
      have hrow : ∀ k, (Value.slice A6 L.length c6).ownBlock = some k → w.heap.size ≤ k ∧ k ≠ g := fun k hk => ⟨(HX3.out.own.lt k hk).1, fun e => HX3.out.vg (by rw [hk, e])⟩
      have HT4 := Lib.hid (HT2.out.row hg4.out (fun e => HX3.out.vg e))
      have Ht4 := Lib.hid (Htu2.out.row HT2.out.lt hg4.out hrow)
      clear hrow
      go_wp2
      go_roundw
      case rel => exact ⟨k + (x.length + 8), L ++ [x], 1, s' + 1, t' + 4 + x.length, by omega, by congr 1, by rw [List.length_append]; show _ + 1 ≤ _; omega, Nat.le_refl _, by omega, by omega, Hsc2.out, hRs4.out, HT4.out, Ht4.out⟩
      case measure => simp [intOf]; omega
end Go.Proofs.Ytgcfofnlgdfmoaa
