/- Several texts in one: CrcSeal, FrEnc, Clone. -/
import Derived.Deep.RegionHeld3
import Derived.WalkSpells
import Derived.Lib.SliceRun
import Derived.Test.YtnagmopejblegaaGreatMb2
import Derived.Test.YtnagmopejblegaaGreatMb3
import Derived.Test.YtnagmopejblegaaGreatMb20
import Derived.Test.YtnagmopejblegaaGreatMb23
import Derived.Test.YtnagmopejblegaaGreatMb25
/- Layer 2: (*Table).Seal and Open. -/
namespace Go.Proofs.YtnagmopejblegaaGreat
open Go.RowKit

theorem TurnsIn.of_below {w w' : World} {g : Nat} {P : Nat → Prop} (hg : g < w.heap.size) (h : Below w.heap.size w w') : TurnsIn w w' g P :=
  ⟨⟨h.os, h.tape, h.output, h.size, fun k hk _ => h.block k hk⟩, fun o _ => h.cell (p := ⟨g, o, none⟩) hg, fun o => h.frozen (p := ⟨g, o, none⟩) hg⟩
theorem Tab.turned {w w' : World} {g d s b : Nat} (h : Tab w g d s b) (ht : TurnsIn w w' g (fun _ => False)) : Tab w' g d s b :=
  { lt := Nat.lt_of_lt_of_le h.lt ht.grown.size
    c0 := (ht.cell 0 id).trans h.c0
    c1 := (ht.cell 1 id).trans h.c1
    tab := fun j hj => by
      obtain ⟨x, hx, hx2⟩ := h.tab j hj
      exact ⟨x, (ht.cell _ id).trans hx, hx2⟩
    sums := (ht.cell 259 id).trans h.sums
    bytes := (ht.cell 260 id).trans h.bytes
    fz := fun o => (ht.fz o).trans (h.fz o) }
theorem Tab.below {w w' : World} {g d s b : Nat} (h : Tab w g d s b) (hb : Below w.heap.size w w') : Tab w' g d s b := h.turned (TurnsIn.of_below h.lt hb)
theorem Tab.drew {w : World} {g d s b : Nat} (h : Tab w g d s b) : Tab w.drew g d s b := h.turned (TurnsIn.refl w g _).drew
theorem Tab.alloc {w : World} {g d s b : Nat} (h : Tab w g d s b) (o : Obj) : Tab (w.alloc o) g d s b := h.turned ((TurnsIn.refl w g _).alloc h.lt o)
theorem TurnsIn.all {w w' : World} {g : Nat} {P : Nat → Prop} (h : TurnsIn w w' g P) : TurnsIn w w' g (fun _ => True) := h.mono fun _ _ => trivial

set_option maxRecDepth 100000 in
set_option maxHeartbeats 1000000 in
theorem seal_any (g d s b : Nat) (hd : d ≤ 1) (A : Option Addr) (n c : Nat) (l : List Nat) (B : Nat) (w : World) (h : Tab w g d s b) (hn : n = l.length) (hm : n ≤ 1048576) (hs : s < 18446744073709551615) (hbn : b + n < 18446744073709551616) (hr : RdB w B A l) (hB : B ≤ w.heap.size) (hok : OkB l) (hoff : Off A g l) :
    Calls Tryz.prog 8 #[.pointer (some ⟨g, 0, none⟩), .slice A n c] w fun e w' => ∃ v, e = .returned v ∧ w'.ownsRow w.heap.size 5 1 v (n + 4) (cellsB (l ++ four (sumN l))) ∧ TurnsIn w w' g (fun _ => True) ∧ Tab w' g 1 (s + 1) (b + n) := by
  have hba : Below w.heap.size w (w.alloc (.cells #[.slice A n c] 22)) := (Below.refl _ _).alloc (Nat.le_refl _) _
  have hsum := tsum_any g d s b w.heap.size hd A n c l B (w.alloc (.cells #[.slice A n c] 22)) (h.alloc _) hn (by unfold maxLen; omega) hs hbn (hr.below (hba.mono hB)) hok hoff (by have := h.lt; omega) (by rw [World.cell?_alloc_at _ _ _ _ rfl]; rfl)
  have HT := Lib.hid h
  have Hn := Lib.hid hn
  have Hr := Lib.hid hr
  have Hok := Lib.hid hok
  have Hba := Lib.hid hba
  have Hs := Lib.hid hsum
  have hlt := h.lt
  have hx := sumN_lt hok
  have Ht1 := Lib.hid ((TurnsIn.of_below (P := fun _ => True) hlt hba))
  have hp := fun w => cput_any (sumN l) w hx
  obtain ⟨y0, y1, y2, y3, hy⟩ : ∃ y0 y1 y2 y3, four (sumN l) = [y0, y1, y2, y3] := ⟨_, _, _, _, rfl⟩
  have hoky : OkB [y0, y1, y2, y3] := by rw [← hy]; exact okB_four _
  rw [hy] at hp ⊢
  have Hp : Hid (∀ w, Calls Tryz.prog 18 #[.int .u32 (sumN l : Nat)] w fun e w' => e = .returned (.agg #[.int .u8 y0, .int .u8 y1, .int .u8 y2, .int .u8 y3]) ∧ Below w.heap.size w w') := hp
  have Hoky := Lib.hid hoky
  clear h hn hr hok hba hsum hp hy hoky
  go_enter Tryz.func8, Tryz.ntmps8
  go_wp2_with fail
  refine Hs.out.mono ?_
  rintro e w2 ⟨rfl, ht2, hT2⟩
  have HT2 := Lib.hid hT2
  have Ht2 := Lib.hid (Ht1.out.trans ht2)
  clear hT2 ht2
  have hsz2 := Ht2.out.grown.size
  go_wp2_with fail
  refine (Hp.out _).mono ?_
  rintro e w3 ⟨rfl, hb3⟩
  have hsz3 := hb3.size
  have HT3 := Lib.hid (HT2.out.below hb3)
  have Ht3 := Lib.hid (Ht2.out.trans (TurnsIn.of_below (P := fun _ => True) HT2.out.lt hb3))
  have hr3 := Lib.hid (Hr.out.turned hoff Ht3.out)
  clear HT2 Ht2 Hp
  go_wp2_with fail
  have hb4 : Below w3.heap.size w3 ((w3.alloc (.cells #[.int .u8 y0, .int .u8 y1, .int .u8 y2, .int .u8 y3] 78)).alloc (.cells #[.slice A n c, .slice (some ⟨w3.heap.size, 0, none⟩) 4 4] 22)) := ((Below.refl _ _).alloc (Nat.le_refl _) _).alloc (by simp) _
  have hq0 : ((w3.alloc (.cells #[.int .u8 y0, .int .u8 y1, .int .u8 y2, .int .u8 y3] 78)).alloc (.cells #[.slice A n c, .slice (some ⟨w3.heap.size, 0, none⟩) 4 4] 22)).cell? ⟨w3.heap.size + 1, 0, none⟩ = some (.slice A n c) := by rw [World.cell?_alloc_at _ _ _ _ (by simp)]; rfl
  have hq1 : ((w3.alloc (.cells #[.int .u8 y0, .int .u8 y1, .int .u8 y2, .int .u8 y3] 78)).alloc (.cells #[.slice A n c, .slice (some ⟨w3.heap.size, 0, none⟩) 4 4] 22)).cell? ⟨w3.heap.size + 1, 1, none⟩ = some (.slice (some ⟨w3.heap.size, 0, none⟩) 4 4) := by rw [World.cell?_alloc_at _ _ _ _ (by simp)]; rfl
  have hfour : RdB ((w3.alloc (.cells #[.int .u8 y0, .int .u8 y1, .int .u8 y2, .int .u8 y3] 78)).alloc (.cells #[.slice A n c, .slice (some ⟨w3.heap.size, 0, none⟩) 4 4] 22)) (w3.heap.size + 1) (some ⟨w3.heap.size, 0, none⟩) [y0, y1, y2, y3] := fun _ =>
    ⟨w3.heap.size, 0, rfl, by omega, fun i x hx => by
      rw [World.cell?_alloc_past _ _ _ (by simp), World.cell?_alloc_at _ _ _ _ rfl]
      match i, hx with
      | 0, hx => cases hx; rfl
      | 1, hx => cases hx; rfl
      | 2, hx => cases hx; rfl
      | 3, hx => cases hx; rfl⟩
  have hlt4 : w3.heap.size + 1 < ((w3.alloc (.cells #[.int .u8 y0, .int .u8 y1, .int .u8 y2, .int .u8 y3] 78)).alloc (.cells #[.slice A n c, .slice (some ⟨w3.heap.size, 0, none⟩) 4 4] 22)).heap.size := by simp
  generalize ((w3.alloc (.cells #[.int .u8 y0, .int .u8 y1, .int .u8 y2, .int .u8 y3] 78)).alloc (.cells #[.slice A n c, .slice (some ⟨w3.heap.size, 0, none⟩) 4 4] 22)) = w4 at *
  have HT4 := Lib.hid (HT3.out.below hb4)
  have Ht4 := Lib.hid (Ht3.out.trans (TurnsIn.of_below (P := fun _ => True) HT3.out.lt hb4))
  refine (concat_any (w3.heap.size + 1) A n c l (some ⟨w3.heap.size, 0, none⟩) 4 4 [y0, y1, y2, y3] (w3.heap.size + 1) w4 Hn.out rfl (by omega) ((hr3.out.below (hb4.mono (by omega))).more (by omega)) hfour (by omega) hlt4 hq0 hq1).mono ?_
  rintro e w5 ⟨v, rfl, hown, hb5⟩
  have Hown := Lib.hid hown
  have HT5 := Lib.hid (HT4.out.below hb5)
  have Ht5 := Lib.hid (Ht4.out.trans (TurnsIn.of_below (P := fun _ => True) HT4.out.lt hb5))
  clear hown hq0 hq1
  go_wp2
  go_ret
  exact ⟨_, rfl, ownB_mono Hown.out (by have := hb4.size; omega), Ht5.out, HT5.out⟩
end Go.Proofs.YtnagmopejblegaaGreat
/- Layer 5: frame.Encode. -/
namespace Go.Proofs.YtnagmopejblegaaGreat
open Go.RowKit

set_option maxRecDepth 100000 in
set_option maxHeartbeats 4000000 in
/-- no table -/
theorem encode_nil (x : Fr) (A : Option Addr) (n c : Nat) (w : World) :
    Calls Tryz.prog 12 #[.pointer none, .agg #[.int .u8 x.k, .int .u8 x.f, .int .u8 x.t, .int .u64 x.e, .int .u64 x.q, .bool x.i.g, .int .u8 x.i.o, .int .u64 x.i.q, .int .u64 x.i.t, .string x.i.r, .slice A n c, .int .u8 x.i.s, .int .u8 x.i.p, .int .i64 x.i.v, .int .u8 x.i.w, .int .u8 x.i.ga, .int .u64 x.i.gf, .int .u64 x.i.gt, .int .u64 x.c, .int .u64 x.b, .int .u64 x.l]] w fun e w' => e = .returned (.tuple #[.slice none 0 0, .int .i64 1]) ∧ Below w.heap.size w w' := by
  have Hba := Lib.hid ((Below.refl w.heap.size w).alloc (Nat.le_refl _) (.cells #[.int .u8 x.k, .int .u8 x.f, .int .u8 x.t, .int .u64 x.e, .int .u64 x.q, .bool x.i.g, .int .u8 x.i.o, .int .u64 x.i.q, .int .u64 x.i.t, .string x.i.r, .slice A n c, .int .u8 x.i.s, .int .u8 x.i.p, .int .i64 x.i.v, .int .u8 x.i.w, .int .u8 x.i.ga, .int .u64 x.i.gf, .int .u64 x.i.gt, .int .u64 x.c, .int .u64 x.b, .int .u64 x.l] 42))
  go_enter Tryz.func12, Tryz.ntmps12
  go_wp2
  go_ret2
  exact ⟨rfl, Hba.out⟩

/-- what Encode does to the world: the table's block turns, and new blocks come -/
def EncRet (l : List Nat) (g s b : Nat) (w : World) (e : Ending) (w' : World) : Prop :=
  ∃ v, e = .returned (.tuple #[v, .int .i64 0]) ∧ w'.ownsRow w.heap.size 5 1 v (l.length + 4) (cellsB (sealB l)) ∧ TurnsIn w w' g (fun _ => True) ∧ Tab w' g 1 (s + 1) (b + l.length)
set_option maxRecDepth 100000 in
set_option maxHeartbeats 8000000 in
theorem fencode_any (g d s b : Nat) (hd : d ≤ 1) (x : Fr) (A : Option Addr) (n c : Nat) (hx : OkF x) (hs : ShortF x) (hc : frameN x = 0) (hn : n = x.i.l.length) (w : World) (h : Tab w g d s b) (h1 : s < 18446744073709551615) (h2 : b < 1000000000000) (hr : RdP w w.heap.size A x.i.l) :
    Calls Tryz.prog 12 #[.pointer (some ⟨g, 0, none⟩), .agg #[.int .u8 x.k, .int .u8 x.f, .int .u8 x.t, .int .u64 x.e, .int .u64 x.q, .bool x.i.g, .int .u8 x.i.o, .int .u64 x.i.q, .int .u64 x.i.t, .string x.i.r, .slice A n c, .int .u8 x.i.s, .int .u8 x.i.p, .int .i64 x.i.v, .int .u8 x.i.w, .int .u8 x.i.ga, .int .u64 x.i.gf, .int .u64 x.i.gt, .int .u64 x.c, .int .u64 x.b, .int .u64 x.l]] w (EncRet (bodyF x) g s b w) := by
  have hgl := h.lt
  have hba : Below w.heap.size w (w.alloc (.cells #[.int .u8 x.k, .int .u8 x.f, .int .u8 x.t, .int .u64 x.e, .int .u64 x.q, .bool x.i.g, .int .u8 x.i.o, .int .u64 x.i.q, .int .u64 x.i.t, .string x.i.r, .slice A n c, .int .u8 x.i.s, .int .u8 x.i.p, .int .i64 x.i.v, .int .u8 x.i.w, .int .u8 x.i.ga, .int .u64 x.i.gf, .int .u64 x.i.gt, .int .u64 x.c, .int .u64 x.b, .int .u64 x.l] 42)) := (Below.refl _ _).alloc (Nat.le_refl _) _
  have HT0 := Lib.hid (h.below hba)
  have R0 := Lib.hid ((hr.below hba).more (B' := (w.alloc (.cells #[.int .u8 x.k, .int .u8 x.f, .int .u8 x.t, .int .u64 x.e, .int .u64 x.q, .bool x.i.g, .int .u8 x.i.o, .int .u64 x.i.q, .int .u64 x.i.t, .string x.i.r, .slice A n c, .int .u8 x.i.s, .int .u8 x.i.p, .int .i64 x.i.v, .int .u8 x.i.w, .int .u8 x.i.ga, .int .u64 x.i.gf, .int .u64 x.i.gt, .int .u64 x.c, .int .u64 x.b, .int .u64 x.l] 42)).heap.size) (by simp))
  have hx0 := heap_alloc_new w (.cells #[.int .u8 x.k, .int .u8 x.f, .int .u8 x.t, .int .u64 x.e, .int .u64 x.q, .bool x.i.g, .int .u8 x.i.o, .int .u64 x.i.q, .int .u64 x.i.t, .string x.i.r, .slice A n c, .int .u8 x.i.s, .int .u8 x.i.p, .int .i64 x.i.v, .int .u8 x.i.w, .int .u8 x.i.ga, .int .u64 x.i.gf, .int .u64 x.i.gt, .int .u64 x.c, .int .u64 x.b, .int .u64 x.l] 42)
  have Hba := Lib.hid hba
  have HX0 := Lib.hid hx0
  have Hx := Lib.hid hx
  have Hs := Lib.hid hs
  have Hn := Lib.hid hn
  have Hc := Lib.hid hc
  have hnl : n ≤ 1048576 := by have := hs.l; omega
  have hbl := bodyF_len hx hs
  have Hok := Lib.hid (bodyF_ok hx hs)
  clear h hba hr hx hs hn hc hx0
  go_enter Tryz.func12, Tryz.ntmps12
  go_wp2_with (first | (refine wpList_load_row rfl _ _ rfl w.heap.size rfl _ _ _ _ HX0.out Tryz.underlying42 rfl (by kernel_rfl) ?_) | fail)
  refine (frameCheck_any x A n c _ Hn.out (by unfold maxLen; omega) R0.out).mono ?_
  rintro e w1 ⟨rfl, hb1⟩
  rw [Hc.out]
  have HX1 := Lib.hid ((hb1.block w.heap.size (by simp)).trans HX0.out)
  have HT1 := Lib.hid (HT0.out.below hb1)
  have Hb1 := Lib.hid (Hba.out.trans (hb1.mono (by simp)))
  have R1 := Lib.hid ((R0.out.below hb1).more hb1.size)
  have hs1 := hb1.size
  clear hb1 HX0 HT0 Hba R0
  have hb2 : Below w1.heap.size w1 (w1.alloc (.cells #[.slice none 0 0] 92)) := (Below.refl _ _).alloc (Nat.le_refl _) _
  have H2 := Lib.hid (Wtr.new w1 92)
  have HX2 := Lib.hid ((hb2.block w.heap.size (by simp at hs1; omega)).trans HX1.out)
  have HB2 := Lib.hid hb2
  have L2 : Hid (LabAt (w1.alloc (.cells #[.slice none 0 0] 92)) w1.heap.size none A x.i.l) := Lib.hid (LabAt.of_rd (B := w1.heap.size) (R1.out.below hb2) (by simp) (Nat.le_refl _) (fun k h => by cases h))
  clear hb2 HX1 R1
  go_wp2_with (first | (refine wpList_load_row rfl _ _ rfl w.heap.size rfl _ _ _ _ HX2.out Tryz.underlying42 rfl (by kernel_rfl) ?_) | fail)
  refine (fput_any w1.heap.size (.slice none 0 0) x A n c Hx.out Hs.out Hn.out _ H2.out L2.out).mono ?_
  rintro e w3 ⟨rfl, v3, h3, r3⟩
  have H3 := Lib.hid h3
  have hb3 := HB2.out.trans (r3.below (B := w1.heap.size) (by simp) (Nat.le_refl _) (fun k h => by cases h))
  have hwl : w.heap.size ≤ w1.heap.size := by simp at hs1; omega
  have HT3 := Lib.hid (HT1.out.below hb3)
  have Hb3 := Lib.hid (Hb1.out.trans (hb3.mono hwl))
  have hs3 := hb3.size
  clear h3 r3 hb3 HB2 HT1 Hb1 H2 L2 HX2
  go_wp2_with fail
  refine (wbytes_any w1.heap.size v3 _ w3 H3.out (by omega)).mono ?_
  rintro e w4 ⟨v4, rfl, ho, hb⟩
  obtain ⟨A4, c4, rfl⟩ := ownB_slice ho
  have HO := Lib.hid ho
  have HT4 := Lib.hid (HT3.out.below hb)
  have Hb4 := Lib.hid (Hb3.out.trans (hb.mono (by omega)))
  have hs4 := hb.size
  have hoff : Hid (Off A4 g (bodyF x)) := fun h0 a ha e => by
    have hl := HO.out.lt a.block (by rw [ha]; rfl)
    omega
  clear ho hb HT3 Hb3 H3
  go_wp2_with fail
  refine (seal_any g d s b hd A4 (bodyF x).length c4 (bodyF x) w4.heap.size w4 HT4.out rfl (by omega) h1 (by omega) (RdB.of_own HO.out) (Nat.le_refl _) Hok.out hoff.out).mono ?_
  rintro e w5 ⟨v5, rfl, ho, ht, hT⟩
  have HO5 := Lib.hid (ownB_mono ho (show w.heap.size ≤ w4.heap.size by omega))
  have Ht := Lib.hid ((TurnsIn.of_below (P := fun _ => True) hgl Hb4.out).trans ht)
  have HT5 := Lib.hid hT
  clear ho ht hT HT4 Hb4 HO hoff
  go_wp2
  go_ret2
  exact ⟨_, rfl, HO5.out, Ht.out, HT5.out⟩
end Go.Proofs.YtnagmopejblegaaGreat
/- slices.Clone of pairs (the library's text, walked). -/
namespace Go.Proofs.YtnagmopejblegaaGreat
open Go.RowKit

theorem own_below {w w' : World} {base : Nat} {e : TypeId} {size n : Nat} {v : Value} {xs : List Value} (h : w.ownsRow base e size v n xs) (hb : Below w.heap.size w w') : w'.ownsRow base e size v n xs :=
  h.kept (row := none) ⟨hb.os, hb.tape, hb.output, hb.size, fun k hk _ => hb.block k hk⟩ (by
    rcases h.2 with ⟨rfl, _⟩ | ⟨g, cap, cur, rfl, _⟩
    · exact Or.inl rfl
    · exact Or.inr (by simp [Value.ownBlock]))

theorem own_slice {W : World} {base : Nat} {e : TypeId} {size n : Nat} {v : Value} {xs : List Value} (h : W.ownsRow base e size v n xs) : ∃ A c, v = .slice A n c := by
  rcases h.2 with ⟨rfl, rfl⟩ | ⟨g, cap, cur, rfl, _⟩
  · exact ⟨none, 0, rfl⟩
  · exact ⟨_, _, rfl⟩

def OkA (A : Option Addr) (n : Nat) : Prop := (A = none → n = 0) ∧ ∀ a, A = some a → ∃ b o, a = ⟨b, o, none⟩

theorem src_of_rd {w : World} {B : Nat} {A : Option Addr} {l : List Pr} {n : Nat} (h : RdP w B A l) (hn : n = l.length) : Src w A n 2 (cellsP l) := by
  subst hn
  refine ⟨cellsP_length l, fun h0 => ?_⟩
  obtain ⟨b, o, e, _, hc⟩ := h h0
  refine ⟨_, e, fun j u hj => ?_⟩
  have hjl : j < l.length * 2 := by
    have := (List.getElem?_eq_some_iff.1 hj).1
    rwa [cellsP_length] at this
  have hp : l[j / 2]? = some (l[j / 2]'(by omega)) := List.getElem?_eq_getElem (by omega)
  obtain ⟨c0, c1⟩ := cellsP_get l (j / 2) _ hp
  obtain ⟨d0, d1⟩ := hc _ _ hp
  rw [Addr.add_lit]
  rcases Nat.mod_two_eq_zero_or_one j with hm2 | hm2
  · rw [show j / 2 * 2 = j from by omega] at c0 d0
    rw [d0, ← c0, hj]
  · rw [show j / 2 * 2 + 1 = j from by omega] at c1
    rw [show o + j / 2 * 2 + 1 = o + j from by omega] at d1
    rw [d1, ← c1, hj]
theorem Tryz.infoP : (Tryz.prog.info? 98).map (fun i => (i.zero, i.size, i.bytes)) = some (some (.agg #[.string ⟨#[]⟩, .string ⟨#[]⟩]), 2, 32) := by kernel_rfl

set_option maxRecDepth 100000 in
set_option maxHeartbeats 400000 in
/-- a copy, nil or not -/
theorem clone_any (A : Option Addr) (n c : Nat) (l : List Pr) (w : World) (hn : n = l.length) (hA : A = none → n = 0) (hm : n * 32 ≤ 140737488351232) (hr : RdP w w.heap.size A l) :
    Calls Tryz.prog 58 #[.slice A n c] w fun e w' => ∃ v, e = .returned v ∧ w'.ownsRow w.heap.size 98 2 v n (cellsP l) ∧ Below w.heap.size w w' := by
  obtain ⟨i0, hi, hz0, hz1, hz2⟩ := info_parts Tryz.infoP
  have q22 : ∀ (w : World) (a : Option Addr) (n c n' c' : Nat), (binOp .eql 33 (.slice a n c) (.slice none n' c')).run Tryz.prog w = .ok (.bool a.isNone) w := fun w a n c n' c' => Lib.run_eql_slice_nil w _ _ a n c n' c' Tryz.underlying33
  cases A with
  | none =>
    obtain rfl := hA rfl
    obtain rfl : l = [] := List.eq_nil_of_length_eq_zero hn.symm
    clear hm hn hA hr
    go_enter Tryz.func58, Tryz.ntmps58
    go_wp2
    go_ret
    exact ⟨_, rfl, World.ownsRow_nil _ _ _ _, Below.refl _ _⟩
  | some a =>
    have hs1 : Src (w.alloc (.cells #[] 98)) (some a) n 2 (cellsP l) := src_of_rd (hr.below ((Below.refl _ w).alloc (Nat.le_refl _) _)) hn
    have HS := Lib.hid hs1
    have Hm := Lib.hid hm
    clear hs1 hr hA hn hm
    go_enter Tryz.func58, Tryz.ntmps58
    go_wp2_with (at_builtin; refine wpList_append_src (base := w.heap.size) rfl _ _ rfl Tryz.underlying33 hi hz0 hz1 hz2 rfl (by decide) rfl (World.ownsRow_made _ #[] 0 (Nat.le_refl _) (Nat.zero_le _) rfl) rfl HS.out (cellsP_one _) (by have := Hm.out; unfold maxLen; omega) (by have := Hm.out; omega) (by simp) ?_; intro v1 w1 hr1 hg1 hb1; replace hb1 : Below w.heap.size w w1 := ((Below.refl _ w).alloc (Nat.le_refl _) _).grown hg1 (by simp) (fun q hq => by cases hq; exact Nat.le_refl _); replace hr1 := Lib.hid hr1; clear hg1)
    go_ret
    have h := hr1.out
    rw [Nat.zero_add, List.nil_append] at h
    exact ⟨_, rfl, h, hb1⟩
end Go.Proofs.YtnagmopejblegaaGreat
