/- Several texts in one: Read, ItPut, ItPutEv, ItGap. -/
import Derived.WalkLawsBesides
import Derived.Deep.QuietTactic
import Derived.BigQuiet
import Derived.Test.YtholdcgkhicdmaaGreatDoorZq2
namespace Go.Proofs.YtholdcgkhicdmaaGreatDoor
open Go.RowKit
def prevOf (l : List Pr) : Nat → Option Pr | 0 => none | j + 1 => l[j]?
def chkAt (l : List Pr) (k : Nat) : Nat := chk (prevOf l k) (l.drop k)
theorem chkAt_end {l : List Pr} {k : Nat} (h : l.length ≤ k) : chkAt l k = 0 := by
 unfold chkAt
 rw [List.drop_of_length_le h]
 cases prevOf l k <;> rfl
theorem drop_at {l : List Pr} {k : Nat} {p : Pr} (hp : l[k]? = some p) : l.drop k = p :: l.drop (k + 1) := by
 obtain ⟨h, rfl⟩ := List.getElem?_eq_some_iff.1 hp
 exact List.drop_eq_getElem_cons h
theorem chkAt_bad {l : List Pr} {k : Nat} {p : Pr} (hp : l[k]? = some p) (h : (keyB p.1 && valueB p.2) = false) : chkAt l k = 8 := by
 unfold chkAt
 rw [drop_at hp]
 cases prevOf l k <;> simp [chk, h]
theorem chkAt_zero {l : List Pr} {p : Pr} (hp : l[0]? = some p) (h1 : keyB p.1 = true) (h2 : valueB p.2 = true) : chkAt l 0 = chkAt l 1 := by
 unfold chkAt
 rw [drop_at hp]
 simp [prevOf, chk, h1, h2, hp]
theorem chkAt_succ {l : List Pr} {k : Nat} {q p : Pr} (hq : l[k]? = some q) (hp : l[k + 1]? = some p) (h1 : keyB p.1 = true) (h2 : valueB p.2 = true) :
  chkAt l (k + 1) = if eqS q.1 p.1 then 7 else if ltS p.1 q.1 then 9 else chkAt l (k + 2) := by
 unfold chkAt
 rw [drop_at hp]
 simp [prevOf, hq, chk, h1, h2, hp]
theorem less_not {a b : ByteArray} (h : Op.bytesLess a.toList b.toList = true) : Op.bytesLess b.toList a.toList = false := by
 have h1 : ltS a b = true := h
 show ltS b a = false
 cases e : ltS b a with
 | false => rfl
 | true => exact absurd (ltS_trans h1 e) (by rw [ltS_irrefl]; simp)
theorem not_less {a b : ByteArray} (h : Op.bytesLess a.toList b.toList = false) (he : (b.toList == a.toList) = false) : Op.bytesLess b.toList a.toList = true := by
 cases e : Op.bytesLess b.toList a.toList with
 | true => rfl
 | false =>
   have := ltS_total (a := a) (b := b) h e
   subst this
   simp at he
set_option maxRecDepth 100000 in
set_option maxHeartbeats 400000 in
theorem check_any (A : Option Addr) (n c : Nat) (l : List Pr) (w : World) (hn : n = l.length) (hm : n ≤ maxLen) (hr : RdP w w.heap.size A l) :
  Calls Tryz.prog 182 #[.slice A n c] w fun e w' => e = .returned (.int .i64 (check l : Nat)) ∧ Below w.heap.size w w' := by
 unfold maxLen at hm
 by_cases h8 : 8 < n
 ·have hf : check l = 5 := by rw [check, if_pos (by omega)]
  have Hf := Lib.hid hf
  have Hn := Lib.hid hn
  clear hf hn
  go_enter Tryz.func182, Tryz.ntmps182
  go_wp2
  go_ret
  exact ⟨by rw [Hf.out]; rfl, Below.refl _ _⟩
 ·have hf : check l = chkAt l 0 := by rw [check, if_neg (by omega)]; rfl
  have Hf := Lib.hid hf
  have Hn := Lib.hid hn
  clear hf hn
  have h8' : decide (8 < n) = false := by simpa using h8
  go_enter Tryz.func182, Tryz.ntmps182
  go_wp2
  go_loopw [10] (fun i wr => ∃ k : Nat, k ≤ n ∧ i = .int .i64 k ∧ Hid (chkAt l 0 = chkAt l k) ∧ Below w.heap.size w wr) (fun i _ => n - (intOf i).toNat)
  case atStart => exact ⟨0, Nat.zero_le _, rfl, rfl, Below.refl _ _⟩
  case round =>
   obtain ⟨k, hk, rfl, Hk, hbw⟩ := hrel
   by_cases hlt : k < n
   ·by_cases hkv : (∃ p, l[k]? = some p ∧ keyB p.1 = true ∧ valueB p.2 = true)
    ·obtain ⟨p, hp, hkey, hval⟩ := hkv
     have Hkey := Lib.hid hkey
     have Hval := Lib.hid hval
     have Hp := Lib.hid hp
     clear hkey hval hp
     rcases Nat.eq_zero_or_pos k with h0 | h0
     ·subst h0
      obtain ⟨b, o, p', hA, hb, hp', hc1, hc2⟩ := (hr.below hbw).at_ (k := 0) (by have := Hn.out; omega)
      obtain rfl : p = p' := Option.some.inj (Hp.out.symm.trans hp')
      subst hA
      clear hr hp'
      simp only [Nat.zero_mul, Nat.add_zero] at hc1 hc2
      go_wp2_with fail
      refine (key_any _ _).mono ?_
      rintro e w2 ⟨rfl, hb2⟩
      rw [Hkey.out]
      obtain ⟨d1, d2, hbw2, hg2⟩ := boxed hbw hbw.size hb2
      clear hb2 hc1 hc2
      go_wp2_with fail
      refine (value_any _ _).mono ?_
      rintro e w3 ⟨rfl, hb3⟩
      rw [Hval.out]
      obtain ⟨e1, e2, hbw3, hg3⟩ := later d1 d2 hbw2 hg2 hbw2.size hb3
      clear hb3 d1 d2
      go_wp2
      exact ⟨⟨1, by omega, rfl, chkAt_zero Hp.out Hkey.out Hval.out, hbw3⟩, by simp [intOf]; omega⟩
     ·obtain ⟨j, rfl⟩ : ∃ j, k = j + 1 := ⟨k - 1, by omega⟩
      obtain ⟨b, o, q, p', hA, hb, hq, hp', hc⟩ := hr.two (j := j) (by have := Hn.out; omega)
      obtain rfl : p = p' := Option.some.inj (Hp.out.symm.trans hp')
      subst hA
      have hs := chkAt_succ hq Hp.out Hkey.out Hval.out
      have Hs := Lib.hid hs
      have Hc := Lib.hid hc
      clear hr hp' hq hs hc
      obtain ⟨-, -, hc1, hc2⟩ := Hc.out wr hbw
      have hb0 : ((j : Int) + 1 == 0) = false := beq_eq_false_iff_ne.2 (by omega)
      go_wp2_with fail
      refine (key_any _ _).mono ?_
      rintro e w2 ⟨rfl, hb2⟩
      rw [Hkey.out]
      obtain ⟨d1, d2, hbw2, hg2⟩ := boxed hbw hbw.size hb2
      clear hb2 hc1 hc2
      go_wp2_with fail
      refine (value_any _ _).mono ?_
      rintro e w3 ⟨rfl, hb3⟩
      rw [Hval.out]
      obtain ⟨e1, e2, hbw3, hg3⟩ := later d1 d2 hbw2 hg2 hbw2.size hb3
      clear hb3 d1 d2
      obtain ⟨f1, f2, -, -⟩ := Hc.out w3 hbw3
      by_cases he : (q.1.toList == p.1.toList) = true
      ·have Hs' : Hid (chkAt l (j + 1) = 7) := by rw [Hs.out, eqS, if_pos he]; rfl
       go_wp2
       go_quiet (fail)
       go_wp2
       go_ret
       exact ⟨by rw [Hf.out, Hk.out, Hs'.out]; rfl, below_drewN hbw3 _⟩
      ·have he : (q.1.toList == p.1.toList) = false := by simpa using he
       by_cases hl : Op.bytesLess p.1.toList q.1.toList = true
       ·have Hs' : Hid (chkAt l (j + 1) = 9) := by rw [Hs.out, eqS, he, ltS, if_neg (by simp), if_pos hl]; rfl
        have hl2 := less_not hl
        go_wp2
        go_quiet (fail)
        go_wp2
        go_quiet (fail)
        go_wp2
        go_ret
        exact ⟨by rw [Hf.out, Hk.out, Hs'.out]; rfl, below_drewN (below_drewN hbw3 _) _⟩
       ·have hl : Op.bytesLess p.1.toList q.1.toList = false := by simpa using hl
        have Hs' : Hid (chkAt l (j + 1) = chkAt l (j + 2)) := by rw [Hs.out, eqS, he, ltS, hl]; rfl
        have hl2 := not_less hl he
        go_wp2
        go_quiet (fail)
        go_wp2
        go_quiet (fail)
        go_wp2
        exact ⟨⟨j + 1 + 1, by omega, by go_num, Hk.out.trans Hs'.out, below_drewN hbw3 _⟩, by simp [intOf]; omega⟩
    ·obtain ⟨b, o, p, hA, hb, hp, hc1, hc2⟩ := (hr.below hbw).at_ (k := k) (by have := Hn.out; omega)
     subst hA
     have Hp := Lib.hid hp
     have hk0 : ¬ (keyB p.1 = true ∧ valueB p.2 = true) := fun h => hkv ⟨p, hp, h.1, h.2⟩
     have Hs : Hid (chkAt l k = 8) := chkAt_bad hp (by rw [Bool.and_eq_false_iff]; by_cases h : keyB p.1 = true <;> simp_all)
     have Hkv := Lib.hid hk0
     clear hkv hr hp hk0
     by_cases hkey : keyB p.1 = true
     ·have hval : valueB p.2 = false := by
       cases e : valueB p.2 with
       | false => rfl
       | true => exact absurd ⟨hkey, e⟩ Hkv.out
      have Hkey := Lib.hid hkey
      have Hval := Lib.hid hval
      clear hkey hval
      go_wp2_with fail
      refine (key_any _ _).mono ?_
      rintro e w2 ⟨rfl, hb2⟩
      rw [Hkey.out]
      obtain ⟨d1, d2, hbw2, hg2⟩ := boxed hbw hbw.size hb2
      clear hb2 hc1 hc2
      go_wp2_with fail
      refine (value_any _ _).mono ?_
      rintro e w3 ⟨rfl, hb3⟩
      rw [Hval.out]
      obtain ⟨e1, e2, hbw3, hg3⟩ := later d1 d2 hbw2 hg2 hbw2.size hb3
      clear hb3 d1 d2
      go_wp2
      go_ret
      exact ⟨by rw [Hf.out, Hk.out, Hs.out]; rfl, hbw3⟩
     ·have hkey : keyB p.1 = false := by simpa using hkey
      have Hkey := Lib.hid hkey
      clear hkey
      go_wp2_with fail
      refine (key_any _ _).mono ?_
      rintro e w2 ⟨rfl, hb2⟩
      rw [Hkey.out]
      obtain ⟨d1, d2, hbw2, hg2⟩ := boxed hbw hbw.size hb2
      clear hb2 hc1 hc2
      go_wp2
      go_ret
      exact ⟨by rw [Hf.out, Hk.out, Hs.out]; rfl, hbw2⟩
   ·have He : Hid (chkAt l k = 0) := chkAt_end (by have := Hn.out; omega)
    clear hr
    go_wp2
    go_ret
    exact ⟨by rw [Hf.out, Hk.out, He.out]; rfl, hbw⟩
def textB (s : ByteArray) : List Nat := leb s.size ++ bytesN s
def labsB : List Pr → List Nat
 | [] => []
 | p :: r => textB p.1 ++ textB p.2 ++ labsB r
def headB (x : It) : List Nat := [x.o] ++ leb x.q ++ leb x.t ++ textB x.r ++ leb x.l.length
def tailB (x : It) : List Nat := [x.s] ++ [x.p] ++ leb (zig x.v) ++ [x.w]
def evB (x : It) : List Nat := headB x ++ labsB x.l ++ tailB x
def gapB (x : It) : List Nat := [x.ga] ++ leb x.gf ++ leb x.gt
def itemB (x : It) : List Nat := if x.g then 1 :: gapB x else 0 :: evB x
theorem textB_length (s : ByteArray) : (textB s).length = (leb s.size).length + s.size := by rw [textB, List.length_append, bytesN_length]
theorem labsB_append : ∀ (a b : List Pr), labsB (a ++ b) = labsB a ++ labsB b
 | [], b => rfl
 | p :: r, b => by simp [labsB, labsB_append r b]
theorem labsB_take {l : List Pr} {k : Nat} {p : Pr} (h : l[k]? = some p) : labsB (l.take (k + 1)) = labsB (l.take k) ++ textB p.1 ++ textB p.2 := by
 obtain ⟨h1, rfl⟩ := List.getElem?_eq_some_iff.1 h
 rw [List.take_succ_eq_append_getElem h1, labsB_append]
 simp [labsB]
theorem labsB_le (l : List Pr) (k : Nat) : (labsB (l.take k)).length ≤ (labsB l).length := by
 conv => rhs; rw [← List.take_append_drop k l, labsB_append, List.length_append]
 omega
theorem labsB_mem {l : List Pr} {k : Nat} {p : Pr} (h : l[k]? = some p) : (labsB (l.take k)).length + (textB p.1).length + (textB p.2).length ≤ (labsB l).length := by
 have := labsB_le l (k + 1)
 rw [labsB_take h, List.length_append, List.length_append] at this
 omega
structure ShortI (x : It) : Prop where
 r : x.r.size ≤ 1048576
 l : ∀ (i : Nat) (p : Pr), x.l[i]? = some p → p.1.size ≤ 1048576 ∧ p.2.size ≤ 1048576
theorem EvAt.wrote {w w1 : World} {b g : Nat} {x : It} {A : Option Addr} {n c : Nat} {r r' : Option Nat} (h : EvAt w b x A n c) (hw : Wrote w w1 g r r') (hg : b ≠ g) (hr : some b ≠ r) : EvAt w1 b x A n c :=
 ⟨Nat.lt_of_lt_of_le h.lt hw.size, (hw.cell (p := ⟨b, 0, none⟩) h.lt hg hr).trans h.c0, (hw.cell (p := ⟨b, 1, none⟩) h.lt hg hr).trans h.c1, (hw.cell (p := ⟨b, 2, none⟩) h.lt hg hr).trans h.c2, (hw.cell (p := ⟨b, 3, none⟩) h.lt hg hr).trans h.c3, (hw.cell (p := ⟨b, 4, none⟩) h.lt hg hr).trans h.c4, (hw.cell (p := ⟨b, 5, none⟩) h.lt hg hr).trans h.c5, (hw.cell (p := ⟨b, 6, none⟩) h.lt hg hr).trans h.c6, (hw.cell (p := ⟨b, 7, none⟩) h.lt hg hr).trans h.c7, (hw.cell (p := ⟨b, 8, none⟩) h.lt hg hr).trans h.c8⟩
def LabAt (w : World) (g : Nat) (r : Option Nat) (A : Option Addr) (l : List Pr) : Prop :=
 0 < l.length → ∃ b o, A = some ⟨b, o, none⟩ ∧ b < w.heap.size ∧ b ≠ g ∧ some b ≠ r ∧ ∀ (i : Nat) (p : Pr), l[i]? = some p → w.cell? ⟨b, o + i * 2, none⟩ = some (.string p.1) ∧ w.cell? ⟨b, o + i * 2 + 1, none⟩ = some (.string p.2)
theorem LabAt.wrote {w w1 : World} {g : Nat} {r r1 : Option Nat} {A : Option Addr} {l : List Pr} (h : LabAt w g r A l) (hw : Wrote w w1 g r r1) : LabAt w1 g r1 A l := fun h0 => by
 obtain ⟨b, o, e, hb, hg, hr, hc⟩ := h h0
 refine ⟨b, o, e, Nat.lt_of_lt_of_le hb hw.size, hg, ?_, fun i p hp => ⟨(hw.cell (p := ⟨b, _, none⟩) hb hg hr).trans (hc i p hp).1, (hw.cell (p := ⟨b, _, none⟩) hb hg hr).trans (hc i p hp).2⟩⟩
 rcases hw.row with h1 | ⟨k, h1, h2⟩
 ·rw [h1]; exact hr
 ·rw [h1]; intro e; injection e with e; omega
theorem LabAt.below {w w1 : World} {g : Nat} {r : Option Nat} {A : Option Addr} {l : List Pr} (h : LabAt w g r A l) (hb : Below w.heap.size w w1) : LabAt w1 g r A l := h.wrote (Wrote.of_below hb g r)
theorem LabAt.at_ {w : World} {g : Nat} {r : Option Nat} {A : Option Addr} {l : List Pr} {k : Nat} (h : LabAt w g r A l) (hk : k < l.length) : ∃ b o p, A = some ⟨b, o, none⟩ ∧ b < w.heap.size ∧ l[k]? = some p ∧ w.cell? ⟨b, o + k * 2, none⟩ = some (.string p.1) ∧ w.cell? ⟨b, o + k * 2 + 1, none⟩ = some (.string p.2) := by
 obtain ⟨b, o, e, hb, _, _, hc⟩ := h (by omega)
 have hg : l[k]? = some l[k] := List.getElem?_eq_getElem hk
 exact ⟨b, o, _, e, hb, hg, (hc k _ hg).1, (hc k _ hg).2⟩
theorem LabAt.of_rd {w : World} {g : Nat} {r : Option Nat} {A : Option Addr} {l : List Pr} {B : Nat} (h : RdP w B A l) (hB : B ≤ w.heap.size) (hg : B ≤ g) (hr : ∀ k, r = some k → g < k) : LabAt w g r A l := fun h0 => by
 obtain ⟨b, o, e, hb, hc⟩ := h h0
 exact ⟨b, o, e, by omega, by omega, fun e => by have := hr b e.symm; omega, hc⟩
theorem Wtr.row_lt {w : World} {g : Nat} {v : Value} {l : List Nat} (h : Wtr w g v l) {k : Nat} (e : v.ownBlock = some k) : k < w.heap.size := by
 exact (h.own.lt k e).2
set_option maxRecDepth 100000 in
set_option maxHeartbeats 1000000 in
theorem putGap_any (g : Nat) (v : Value) (l : List Nat) (x : It) (hx : OkI x) (w : World) (h : Wtr w g v l) (hl : l.length ≤ 2090000) :
  Calls Tryz.prog 77 #[.pointer (some ⟨g, 0, none⟩), .agg #[.int .u8 x.ga, .int .u64 x.gf, .int .u64 x.gt]] w fun e w' => e = .returned (.tuple #[]) ∧ Puts w w' g v (l ++ gapB x) := by
 have hba : Below w.heap.size w (w.alloc (.cells #[.int .u8 x.ga, .int .u64 x.gf, .int .u64 x.gt] 45)) := (Below.refl _ _).alloc (Nat.le_refl _) _
 have l1 := leb_le10 hx.gf
 have l2 := leb_le10 hx.gt
 have q1 := hx.gf
 have q2 := hx.gt
 have hgl := h.lt
 have H0 := Lib.hid (h.below hba)
 have R0 := Lib.hid (Wrote.of_below hba g v.ownBlock)
 have hg1 : w.heap.size ≠ g := by omega
 have hg2 : some w.heap.size ≠ v.ownBlock := fun e => by have := h.row_lt e.symm; omega
 have b1 : (w.alloc (.cells #[.int .u8 x.ga, .int .u64 x.gf, .int .u64 x.gt] 45)).cell? ⟨w.heap.size, 1, none⟩ = some (.int .u64 x.gf) := by rw [World.cell?_alloc_at _ _ _ _ rfl]; rfl
 have b2 : (w.alloc (.cells #[.int .u8 x.ga, .int .u64 x.gf, .int .u64 x.gt] 45)).cell? ⟨w.heap.size, 2, none⟩ = some (.int .u64 x.gt) := by rw [World.cell?_alloc_at _ _ _ _ rfl]; rfl
 have F : Hid (∀ W v2, Wrote (w.alloc (.cells #[.int .u8 x.ga, .int .u64 x.gf, .int .u64 x.gt] 45)) W g v.ownBlock v2 → W.cell? ⟨w.heap.size, 1, none⟩ = some (.int .u64 x.gf) ∧ W.cell? ⟨w.heap.size, 2, none⟩ = some (.int .u64 x.gt)) := fun W v2 hW =>
  ⟨(hW.cell (p := ⟨w.heap.size, 1, none⟩) (by simp) hg1 hg2).trans b1, (hW.cell (p := ⟨w.heap.size, 2, none⟩) (by simp) hg1 hg2).trans b2⟩
 clear h hba hx hg1 hg2 b1 b2
 go_enter Tryz.func77, Tryz.ntmps77
 go_wp2_with fail
 refine (wbyte_any g v l x.ga _ H0.out (by omega)).mono ?_
 rintro e w1 ⟨rfl, v1, h1, r1⟩
 have H1 := Lib.hid h1
 have R1 := Lib.hid r1
 obtain ⟨k1, k2⟩ := F.out _ _ r1
 clear h1 r1
 go_wp2_with fail
 refine (wuint_any g v1 _ x.gf q1 _ H1.out (by simp; omega)).mono ?_
 rintro e w2 ⟨rfl, v2, h1, r1⟩
 have H2 := Lib.hid h1
 have R2 := Lib.hid (R1.out.trans r1)
 clear h1 r1 k1 k2
 obtain ⟨k1, k2⟩ := F.out _ _ R2.out
 go_wp2_with fail
 refine (wuint_any g v2 _ x.gt q2 _ H2.out (by simp; omega)).mono ?_
 rintro e w3 ⟨rfl, v3, h1, r1⟩
 have H3 := Lib.hid h1
 have R3 := Lib.hid (R0.out.trans (R2.out.trans r1))
 clear h1 r1 k1 k2
 go_wp2
 go_end0
 refine ⟨rfl, v3, ?_, R3.out⟩
 have h1 := H3.out
 simp only [gapB, List.append_assoc] at h1 ⊢
 exact h1
set_option maxRecDepth 100000 in
set_option maxHeartbeats 3000000 in
theorem putEvent_any (g : Nat) (v0 : Value) (l : List Nat) (x : It) (A : Option Addr) (n c : Nat) (hx : OkI x) (hs : ShortI x) (hn : n = x.l.length) (hm : n ≤ 1048576) (w : World) (h : Wtr w g v0 l) (hl : l.length + (evB x).length ≤ 2000000) (hr : LabAt w g v0.ownBlock A x.l) :
  Calls Tryz.prog 78 #[.pointer (some ⟨g, 0, none⟩), .agg #[.int .u8 x.o, .int .u64 x.q, .int .u64 x.t, .string x.r, .slice A n c, .int .u8 x.s, .int .u8 x.p, .int .i64 x.v, .int .u8 x.w]] w fun e w' => e = .returned (.tuple #[]) ∧ Puts w w' g v0 (l ++ evB x) := by
 have hba : Below w.heap.size w (w.alloc (.cells #[.int .u8 x.o, .int .u64 x.q, .int .u64 x.t, .string x.r, .slice A n c, .int .u8 x.s, .int .u8 x.p, .int .i64 x.v, .int .u8 x.w] 41)) := (Below.refl _ _).alloc (Nat.le_refl _) _
 have l1 := leb_le10 hx.q
 have l2 := leb_le10 hx.t
 have l3 := leb_le10 (n := x.r.size) (by have := hs.r; omega)
 have l4 := leb_le10 (n := x.l.length) (by omega)
 have l5 := leb_le10 (zig_lt hx.v0 hx.v1)
 have q1 := hx.q
 have q2 := hx.t
 have q3 := hx.v0
 have q4 := hx.v1
 have q5 := hs.r
 have hbig : (evB x).length = 1 + (leb x.q).length + (leb x.t).length + ((leb x.r.size).length + x.r.size) + (leb x.l.length).length + (labsB x.l).length + (1 + 1 + (leb (zig x.v)).length + 1) := by
  unfold evB headB tailB
  simp only [List.length_append, List.length_cons, List.length_nil, textB_length]
 have hbound : l.length + (leb x.q).length + (leb x.t).length + (leb x.r.size).length + x.r.size + (leb x.l.length).length + (labsB x.l).length + (leb (zig x.v)).length ≤ 1999996 := by omega
 clear hbig hl
 have hgl := h.lt
 have H0 := Lib.hid (h.below hba)
 have Rw := Lib.hid (Wrote.of_below hba g v0.ownBlock)
 have hbg : w.heap.size ≠ g := by omega
 have hbr : Hid (some w.heap.size ≠ v0.ownBlock) := fun e => by have := h.row_lt e.symm; omega
 have HE := Lib.hid (EvAt.new w x A n c 41)
 have HL := Lib.hid (hr.below hba)
 have Hs := Lib.hid hs.l
 have Hn := Lib.hid hn
 have hq : (w.alloc (.cells #[.int .u8 x.o, .int .u64 x.q, .int .u64 x.t, .string x.r, .slice A n c, .int .u8 x.s, .int .u8 x.p, .int .i64 x.v, .int .u8 x.w] 41)).heap.size = w.heap.size + 1 := by simp
 clear h hba hx hs hr hn
 go_enter Tryz.func78, Tryz.ntmps78
 go_wp2_with fail
 refine (wbyte_any g v0 l x.o _ H0.out (by omega)).mono ?_
 rintro e w1 ⟨rfl, v1, h1, r1⟩
 have H1 := Lib.hid h1
 have R1 := Lib.hid r1
 clear h1 r1
 obtain ⟨_, c0, c1, c2, c3, c4, c5, c6, c7, c8⟩ := HE.out.wrote R1.out hbg hbr.out
 go_wp2_with fail
 refine (wuint_any g v1 _ x.q q1 _ H1.out (by simp only [List.length_append, List.length_cons, List.length_nil]; omega)).mono ?_
 rintro e w2 ⟨rfl, v2, h1, r1⟩
 have H2 := Lib.hid h1
 have R2 := Lib.hid (R1.out.trans r1)
 clear h1 r1
 clear c0 c1 c2 c3 c4 c5 c6 c7 c8
 have E2 := HE.out.wrote R2.out hbg hbr.out
 obtain ⟨_, c0, c1, c2, c3, c4, c5, c6, c7, c8⟩ := E2
 go_wp2_with fail
 refine (wuint_any g v2 _ x.t q2 _ H2.out (by simp only [List.length_append, List.length_cons, List.length_nil]; omega)).mono ?_
 rintro e w3 ⟨rfl, v3, h1, r1⟩
 have H3 := Lib.hid h1
 have R3 := Lib.hid (R2.out.trans r1)
 clear h1 r1
 clear c0 c1 c2 c3 c4 c5 c6 c7 c8
 have E3 := HE.out.wrote R3.out hbg hbr.out
 obtain ⟨_, c0, c1, c2, c3, c4, c5, c6, c7, c8⟩ := E3
 go_wp2_with fail
 refine (wtext_any g v3 _ x.r q5 _ H3.out (by simp only [List.length_append, List.length_cons, List.length_nil]; omega)).mono ?_
 rintro e w4 ⟨rfl, v4, h1, r1⟩
 have H4 := Lib.hid h1
 have R4 := Lib.hid (R3.out.trans r1)
 clear h1 r1
 clear c0 c1 c2 c3 c4 c5 c6 c7 c8
 have E4 := HE.out.wrote R4.out hbg hbr.out
 obtain ⟨_, c0, c1, c2, c3, c4, c5, c6, c7, c8⟩ := E4
 go_wp2_with fail
 refine (wuint_at g v4 _ x.l.length (by have := Hn.out; omega) (by have := Hn.out; omega) _ H4.out (by simp only [List.length_append, List.length_cons, List.length_nil, bytesN_length]; omega)).mono ?_
 rintro e w5 ⟨rfl, v5, h1, r1⟩
 have H5 := Lib.hid h1
 have R5 := Lib.hid (R4.out.trans r1)
 clear h1 r1
 clear c0 c1 c2 c3 c4 c5 c6 c7 c8
 have E5 := HE.out.wrote R5.out hbg hbr.out
 obtain ⟨_, c0, c1, c2, c3, c4, c5, c6, c7, c8⟩ := E5
 have Hh : Hid (Wtr w5 g v5 (l ++ headB x)) := by
  have h1 := H5.out
  simp only [headB, textB, List.append_assoc] at h1 ⊢
  exact h1
 have hhl : (l ++ headB x).length + (labsB x.l).length + (leb (zig x.v)).length ≤ 1999998 := by
  unfold headB
  simp only [List.length_append, List.length_cons, List.length_nil, textB_length]
  omega
 clear H1 H2 H3 H4 H5 R1 R2 R3 R4 l1 l2 l3 l4 hbound
 obtain ⟨P, hP⟩ : ∃ P, l ++ headB x = P := ⟨_, rfl⟩
 rw [hP] at Hh hhl
 have HP := Lib.hid hP
 clear hP
 go_wp2
 go_loopw [31] (fun iv wr => ∃ (k : Nat) (vk : Value), k ≤ n ∧ iv = .int .i64 k ∧ Hid (Wtr wr g vk (P ++ labsB (x.l.take k))) ∧ Hid (Wrote (w.alloc (.cells #[.int .u8 x.o, .int .u64 x.q, .int .u64 x.t, .string x.r, .slice A n c, .int .u8 x.s, .int .u8 x.p, .int .i64 x.v, .int .u8 x.w] 41)) wr g v0.ownBlock vk.ownBlock)) (fun iv _ => n - (intOf iv).toNat)
 case atStart => exact ⟨0, v5, Nat.zero_le _, rfl, by show Wtr _ _ _ _; rw [List.take_zero, labsB, List.append_nil]; exact Hh.out, R5.out⟩
 case round =>
  obtain ⟨k, vk, hk, rfl, HK, RK⟩ := hrel
  clear c0 c1 c2 c3 c4 c5 c6 c7 c8 Hh R5
  by_cases hlt : k < n
  ·obtain ⟨b, o, p, rfl, hb, hp, d0, d1⟩ := (HL.out.wrote RK.out).at_ (k := k) (by have := Hn.out; omega)
   obtain ⟨s1, s2⟩ := Hs.out k p hp
   have hle := labsB_mem hp
   rw [textB_length, textB_length] at hle
   have hPl : (P ++ labsB (x.l.take k)).length = P.length + (labsB (x.l.take k)).length := List.length_append
   have lp1 := leb_le10 (n := p.1.size) (by omega)
   have hsz : g < wr.heap.size := HK.out.lt
   have hba2 : Below wr.heap.size wr (wr.alloc (.cells #[.string p.1, .string p.2] 37)) := (Below.refl _ _).alloc (Nat.le_refl _) _
   have K0 := Lib.hid (HK.out.below hba2)
   have RK1 := Lib.hid (RK.out.trans (Wrote.of_below hba2 g vk.ownBlock))
   have e0 : (wr.alloc (.cells #[.string p.1, .string p.2] 37)).cell? ⟨wr.heap.size, 0, none⟩ = some (.string p.1) := by rw [World.cell?_alloc_at _ _ _ _ rfl]; rfl
   have e1 : (wr.alloc (.cells #[.string p.1, .string p.2] 37)).cell? ⟨wr.heap.size, 1, none⟩ = some (.string p.2) := by rw [World.cell?_alloc_at _ _ _ _ rfl]; rfl
   have hne : Hid (some wr.heap.size ≠ vk.ownBlock) := fun e => by have := HK.out.row_lt e.symm; omega
   have Hp := Lib.hid hp
   clear hp hba2 HK RK
   have HPl := Lib.hid hPl
   have hPL : (P ++ labsB (x.l.take k)).length ≤ 1999998 - (leb p.1.size).length - p.1.size - (leb p.2.size).length - p.2.size := by rw [hPl]; omega
   clear hPl
   go_wp2_with fail
   refine (wtext_any g vk _ p.1 s1 _ K0.out (by omega)).mono ?_
   rintro e w7 ⟨rfl, v7, h1, r1⟩
   have e1' := (r1.cell (p := ⟨wr.heap.size, 1, none⟩) (by simp) (by simp; omega) hne.out).trans e1
   have K1 := Lib.hid h1
   have RK2 := Lib.hid (RK1.out.trans r1)
   clear h1 r1 e0 e1
   go_wp2_with fail
   refine (wtext_any g v7 _ p.2 s2 _ K1.out (by simp only [List.length_append, bytesN_length] at hPL ⊢; omega)).mono ?_
   rintro e w8 ⟨rfl, v8, h1, r1⟩
   have K2 := Lib.hid h1
   have RK3 := Lib.hid (RK2.out.trans r1)
   clear h1 r1 e1'
   go_wp2
   refine ⟨⟨k + 1, v8, by omega, by go_num, ?_, RK3.out⟩, by simp [intOf]; omega⟩
   have h1 := K2.out
   show Wtr _ _ _ _
   rw [labsB_take Hp.out]
   simp only [textB, List.append_assoc] at h1 ⊢
   exact h1
  ·have hkn : x.l.take k = x.l := List.take_of_length_le (by have := Hn.out; omega)
   rw [hkn] at HK
   clear hkn
   obtain ⟨w9, rfl⟩ : ∃ w9 : World, w9 = wr := ⟨_, rfl⟩
   obtain ⟨v9, rfl⟩ : ∃ v9 : Value, v9 = vk := ⟨_, rfl⟩
   have H9 := HK
   have R9 := RK
   clear HK RK
   obtain ⟨_, c0, c1, c2, c3, c4, c5, c6, c7, c8⟩ := HE.out.wrote R9.out hbg hbr.out
   go_wp2_with fail
   refine (wbyte_any g v9 _ x.s _ H9.out (by simp only [List.length_append] at hhl ⊢; omega)).mono ?_
   rintro e w10 ⟨rfl, v10, h1, r1⟩
   have H10 := Lib.hid h1
   have R10 := Lib.hid (R9.out.trans r1)
   clear h1 r1
   clear c0 c1 c2 c3 c4 c5 c6 c7 c8
   have E10 := HE.out.wrote R10.out hbg hbr.out
   obtain ⟨_, c0, c1, c2, c3, c4, c5, c6, c7, c8⟩ := E10
   go_wp2_with fail
   refine (wbyte_any g v10 _ x.p _ H10.out (by simp only [List.length_append, List.length_cons, List.length_nil] at hhl ⊢; omega)).mono ?_
   rintro e w11 ⟨rfl, v11, h1, r1⟩
   have H11 := Lib.hid h1
   have R11 := Lib.hid (R10.out.trans r1)
   clear h1 r1
   clear c0 c1 c2 c3 c4 c5 c6 c7 c8
   have E11 := HE.out.wrote R11.out hbg hbr.out
   obtain ⟨_, c0, c1, c2, c3, c4, c5, c6, c7, c8⟩ := E11
   go_wp2_with fail
   refine (wint_any g v11 _ x.v q3 q4 _ H11.out (by simp only [List.length_append, List.length_cons, List.length_nil] at hhl ⊢; omega)).mono ?_
   rintro e w12 ⟨rfl, v12, h1, r1⟩
   have H12 := Lib.hid h1
   have R12 := Lib.hid (R11.out.trans r1)
   clear h1 r1
   clear c0 c1 c2 c3 c4 c5 c6 c7 c8
   have E12 := HE.out.wrote R12.out hbg hbr.out
   obtain ⟨_, c0, c1, c2, c3, c4, c5, c6, c7, c8⟩ := E12
   go_wp2_with fail
   refine (wbyte_any g v12 _ x.w _ H12.out (by simp only [List.length_append, List.length_cons, List.length_nil] at hhl ⊢; omega)).mono ?_
   rintro e w13 ⟨rfl, v13, h1, r1⟩
   have H13 := Lib.hid h1
   have R13 := Lib.hid (R12.out.trans r1)
   clear h1 r1
   clear c0 c1 c2 c3 c4 c5 c6 c7 c8
   have E13 := HE.out.wrote R13.out hbg hbr.out
   obtain ⟨_, c0, c1, c2, c3, c4, c5, c6, c7, c8⟩ := E13
   go_wp2
   go_end0
   refine ⟨rfl, v13, ?_, Rw.out.trans R13.out⟩
   have h1 := H13.out
   rw [← HP.out] at h1
   simp only [evB, tailB, List.append_assoc] at h1 ⊢
   exact h1
set_option maxRecDepth 100000 in
set_option maxHeartbeats 400000 in
theorem gap_any (o f t : Int) (w : World) :
  Calls Tryz.prog 95 #[.int .u8 o, .int .u64 f, .int .u64 t] w fun e w' => e = .returned (.agg #[.bool true, .int .u8 0, .int .u64 0, .int .u64 0, .string ⟨#[]⟩, .slice none 0 0, .int .u8 0, .int .u8 0, .int .i64 0, .int .u8 0, .int .u8 o, .int .u64 f, .int .u64 t]) ∧ Below w.heap.size w w' := by
 go_enter Tryz.func95, Tryz.ntmps95
 go_wp2
 refine bodyPost_ret (v := .agg #[.bool true, .int .u8 0, .int .u64 0, .int .u64 0, .string ⟨#[]⟩, .slice none 0 0, .int .u8 0, .int .u8 0, .int .i64 0, .int .u8 0, .int .u8 o, .int .u64 f, .int .u64 t]) (by simp [results, Tryz.results95, go_sem]) rfl ⟨rfl, (Below.refl _ _).alloc (Nat.le_refl _) _⟩
end Go.Proofs.YtholdcgkhicdmaaGreatDoor