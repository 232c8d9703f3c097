/- Several texts in one: Read, ItPut, ItSmallAll, Pairs. -/
import Derived.WalkSpells
import Derived.WalkLawsBesides
import Derived.Deep.QuietTactic
import Derived.BigQuiet
import Derived.Deep.SlicePairs
import Derived.Test.YtocdhnlffemnhaaQa1
import Derived.Test.YtocdhnlffemnhaaQa4
import Derived.Test.YtocdhnlffemnhaaQa6
import Derived.Test.YtocdhnlffemnhaaQa7
/- Layer 1: what only reads pairs: Get, Check and the document's own. -/
namespace Go.Proofs.Ytocdhnlffemnhaa
open Go.RowKit

def getP (l : List Pr) (key : ByteArray) : Option ByteArray := (l.find? fun p => eqS p.1 key).map (·.2)

theorem getP_at {l : List Pr} {key : ByteArray} {k : Nat} {p : Pr} (hp : l[k]? = some p) (hno : ∀ (j : Nat) (q : Pr), j < k → l[j]? = some q → eqS q.1 key = false) (h : eqS p.1 key = true) : getP l key = some p.2 := by
  induction l generalizing k with
  | nil => simp at hp
  | cons q l ih =>
    cases k with
    | zero => simp at hp; subst hp; simp [getP, h]
    | succ k =>
      have h0 := hno 0 q (by omega) rfl
      have := ih (k := k) (by simpa using hp) (fun j r hj hr => hno (j + 1) r (by omega) (by simpa using hr))
      simp [getP, h0] at this ⊢
      exact this
theorem getP_none {l : List Pr} {key : ByteArray} (hno : ∀ (j : Nat) (q : Pr), l[j]? = some q → eqS q.1 key = false) : getP l key = none := by
  simp only [getP, Option.map_eq_none_iff, List.find?_eq_none]
  intro x hx
  obtain ⟨j, hj⟩ := List.mem_iff_getElem?.1 hx
  simp [hno j x hj]

def prevOf (l : List Pr) : Nat → Option Pr | 0 => none | j + 1 => l[j]?
/-- what is left of Check at place k -/
def chkAt (l : List Pr) (k : Nat) : Nat := chk (prevOf l k) (l.drop k)
theorem chkAt_end {l : List Pr} {k : Nat} (h : l.length ≤ k) : chkAt l k = 0 := by
  unfold chkAt
  rw [List.drop_of_length_le h]
  cases prevOf l k <;> rfl
theorem drop_at {l : List Pr} {k : Nat} {p : Pr} (hp : l[k]? = some p) : l.drop k = p :: l.drop (k + 1) := by
  obtain ⟨h, rfl⟩ := List.getElem?_eq_some_iff.1 hp
  exact List.drop_eq_getElem_cons h
theorem chkAt_bad {l : List Pr} {k : Nat} {p : Pr} (hp : l[k]? = some p) (h : (keyB p.1 && valueB p.2) = false) : chkAt l k = 8 := by
  unfold chkAt
  rw [drop_at hp]
  cases prevOf l k <;> simp [chk, h]
theorem chkAt_zero {l : List Pr} {p : Pr} (hp : l[0]? = some p) (h1 : keyB p.1 = true) (h2 : valueB p.2 = true) : chkAt l 0 = chkAt l 1 := by
  unfold chkAt
  rw [drop_at hp]
  simp [prevOf, chk, h1, h2, hp]
theorem chkAt_succ {l : List Pr} {k : Nat} {q p : Pr} (hq : l[k]? = some q) (hp : l[k + 1]? = some p) (h1 : keyB p.1 = true) (h2 : valueB p.2 = true) :
    chkAt l (k + 1) = if eqS q.1 p.1 then 7 else if ltS p.1 q.1 then 9 else chkAt l (k + 2) := by
  unfold chkAt
  rw [drop_at hp]
  simp [prevOf, hq, chk, h1, h2, hp]

theorem less_not {a b : ByteArray} (h : Op.bytesLess a.toList b.toList = true) : Op.bytesLess b.toList a.toList = false := by
  have h1 : ltS a b = true := h
  show ltS b a = false
  cases e : ltS b a with
  | false => rfl
  | true => exact absurd (ltS_trans h1 e) (by rw [ltS_irrefl]; simp)
theorem not_less {a b : ByteArray} (h : Op.bytesLess a.toList b.toList = false) (he : (b.toList == a.toList) = false) : Op.bytesLess b.toList a.toList = true := by
  cases e : Op.bytesLess b.toList a.toList with
  | true => rfl
  | false =>
    have := ltS_total (a := a) (b := b) h e
    subst this
    simp at he

theorem errno_ret {a b : Nat} (h : a = b) : Ending.returned (.int .i64 (a : Nat)) = .returned (.int .i64 (b : Nat)) := by rw [h]

set_option maxRecDepth 100000 in
set_option maxHeartbeats 400000 in
theorem check_any (A : Option Addr) (n c : Nat) (l : List Pr) (w : World) (hn : n = l.length) (hm : n ≤ maxLen) (hr : RdP w w.heap.size A l) :
    Calls Try.prog 55 #[.slice A n c] w fun e w' => e = .returned (.int .i64 (check l : Nat)) ∧ Below w.heap.size w w' := by
  unfold maxLen at hm
  by_cases h8 : 8 < n
  · have hf : check l = 5 := by rw [check, if_pos (by omega)]
    have Hf := Lib.hid hf
    have Hn := Lib.hid hn
    clear hf hn
    go_enter Try.func55, Try.ntmps55
    go_wp2
    go_ret
    exact ⟨by rw [Hf.out]; rfl, Below.refl _ _⟩
  · have hf : check l = chkAt l 0 := by rw [check, if_neg (by omega)]; rfl
    have Hf := Lib.hid hf
    have Hn := Lib.hid hn
    clear hf hn
    have h8' : decide (8 < n) = false := by simpa using h8
    go_enter Try.func55, Try.ntmps55
    go_wp2
    go_loopw [10] (fun i wr => ∃ k : Nat, k ≤ n ∧ i = .int .i64 k ∧ Hid (chkAt l 0 = chkAt l k) ∧ Below w.heap.size w wr) (fun i _ => n - (intOf i).toNat)
    case atStart => exact ⟨0, Nat.zero_le _, rfl, rfl, Below.refl _ _⟩
    case round =>
      obtain ⟨k, hk, rfl, Hk, hbw⟩ := hrel
      by_cases hlt : k < n
      · by_cases hkv : (∃ p, l[k]? = some p ∧ keyB p.1 = true ∧ valueB p.2 = true)
        · obtain ⟨p, hp, hkey, hval⟩ := hkv
          have Hkey := Lib.hid hkey
          have Hval := Lib.hid hval
          have Hp := Lib.hid hp
          clear hkey hval hp
          rcases Nat.eq_zero_or_pos k with h0 | h0
          · subst h0
            obtain ⟨b, o, p', hA, hb, hp', hc1, hc2⟩ := (hr.below hbw).at_ (k := 0) (by have := Hn.out; omega)
            obtain rfl : p = p' := Option.some.inj (Hp.out.symm.trans hp')
            subst hA
            clear hr hp'
            simp only [Nat.zero_mul, Nat.add_zero] at hc1 hc2
            go_wp2_with fail
            refine (key_any _ _).mono ?_
            rintro e w2 ⟨rfl, hb2⟩
            rw [Hkey.out]
            obtain ⟨d1, d2, hbw2, hg2⟩ := boxed hbw hbw.size hb2
            clear hb2 hc1 hc2
            go_wp2_with fail
            refine (value_any _ _).mono ?_
            rintro e w3 ⟨rfl, hb3⟩
            rw [Hval.out]
            obtain ⟨e1, e2, hbw3, hg3⟩ := later d1 d2 hbw2 hg2 hbw2.size hb3
            clear hb3 d1 d2
            go_wp2
            exact ⟨⟨1, by omega, rfl, chkAt_zero Hp.out Hkey.out Hval.out, hbw3⟩, by simp [intOf]; omega⟩
          · obtain ⟨j, rfl⟩ : ∃ j, k = j + 1 := ⟨k - 1, by omega⟩
            obtain ⟨b, o, q, p', hA, hb, hq, hp', hc⟩ := hr.two (j := j) (by have := Hn.out; omega)
            obtain rfl : p = p' := Option.some.inj (Hp.out.symm.trans hp')
            subst hA
            have hs := chkAt_succ hq Hp.out Hkey.out Hval.out
            have Hs := Lib.hid hs
            have Hc := Lib.hid hc
            clear hr hp' hq hs hc
            obtain ⟨-, -, hc1, hc2⟩ := Hc.out wr hbw
            have hb0 : ((j : Int) + 1 == 0) = false := beq_eq_false_iff_ne.2 (by omega)
            go_wp2_with fail
            refine (key_any _ _).mono ?_
            rintro e w2 ⟨rfl, hb2⟩
            rw [Hkey.out]
            obtain ⟨d1, d2, hbw2, hg2⟩ := boxed hbw hbw.size hb2
            clear hb2 hc1 hc2
            go_wp2_with fail
            refine (value_any _ _).mono ?_
            rintro e w3 ⟨rfl, hb3⟩
            rw [Hval.out]
            obtain ⟨e1, e2, hbw3, hg3⟩ := later d1 d2 hbw2 hg2 hbw2.size hb3
            clear hb3 d1 d2
            obtain ⟨f1, f2, -, -⟩ := Hc.out w3 hbw3
            by_cases he : (q.1.toList == p.1.toList) = true
            · have Hs' : Hid (chkAt l (j + 1) = 7) := by rw [Hs.out, eqS, if_pos he]; rfl
              go_wp2
              go_quiet (fail)
              go_wp2
              go_ret
              exact ⟨by rw [Hf.out, Hk.out, Hs'.out]; rfl, below_drewN hbw3 _⟩
            · have he : (q.1.toList == p.1.toList) = false := by simpa using he
              by_cases hl : Op.bytesLess p.1.toList q.1.toList = true
              · have Hs' : Hid (chkAt l (j + 1) = 9) := by rw [Hs.out, eqS, he, ltS, if_neg (by simp), if_pos hl]; rfl
                have hl2 := less_not hl
                go_wp2
                go_quiet (fail)
                go_wp2
                go_quiet (fail)
                go_wp2
                go_ret
                exact ⟨by rw [Hf.out, Hk.out, Hs'.out]; rfl, below_drewN (below_drewN hbw3 _) _⟩
              · have hl : Op.bytesLess p.1.toList q.1.toList = false := by simpa using hl
                have Hs' : Hid (chkAt l (j + 1) = chkAt l (j + 2)) := by rw [Hs.out, eqS, he, ltS, hl]; rfl
                have hl2 := not_less hl he
                go_wp2
                go_quiet (fail)
                go_wp2
                go_quiet (fail)
                go_wp2
                exact ⟨⟨j + 1 + 1, by omega, by go_num, Hk.out.trans Hs'.out, below_drewN hbw3 _⟩, by simp [intOf]; omega⟩
        · obtain ⟨b, o, p, hA, hb, hp, hc1, hc2⟩ := (hr.below hbw).at_ (k := k) (by have := Hn.out; omega)
          subst hA
          have Hp := Lib.hid hp
          have hk0 : ¬ (keyB p.1 = true ∧ valueB p.2 = true) := fun h => hkv ⟨p, hp, h.1, h.2⟩
          have Hs : Hid (chkAt l k = 8) := chkAt_bad hp (by rw [Bool.and_eq_false_iff]; by_cases h : keyB p.1 = true <;> simp_all)
          have Hkv := Lib.hid hk0
          clear hkv hr hp hk0
          by_cases hkey : keyB p.1 = true
          · have hval : valueB p.2 = false := by
              cases e : valueB p.2 with
              | false => rfl
              | true => exact absurd ⟨hkey, e⟩ Hkv.out
            have Hkey := Lib.hid hkey
            have Hval := Lib.hid hval
            clear hkey hval
            go_wp2_with fail
            refine (key_any _ _).mono ?_
            rintro e w2 ⟨rfl, hb2⟩
            rw [Hkey.out]
            obtain ⟨d1, d2, hbw2, hg2⟩ := boxed hbw hbw.size hb2
            clear hb2 hc1 hc2
            go_wp2_with fail
            refine (value_any _ _).mono ?_
            rintro e w3 ⟨rfl, hb3⟩
            rw [Hval.out]
            obtain ⟨e1, e2, hbw3, hg3⟩ := later d1 d2 hbw2 hg2 hbw2.size hb3
            clear hb3 d1 d2
            go_wp2
            go_ret
            exact ⟨by rw [Hf.out, Hk.out, Hs.out]; rfl, hbw3⟩
          · have hkey : keyB p.1 = false := by simpa using hkey
            have Hkey := Lib.hid hkey
            clear hkey
            go_wp2_with fail
            refine (key_any _ _).mono ?_
            rintro e w2 ⟨rfl, hb2⟩
            rw [Hkey.out]
            obtain ⟨d1, d2, hbw2, hg2⟩ := boxed hbw hbw.size hb2
            clear hb2 hc1 hc2
            go_wp2
            go_ret
            exact ⟨by rw [Hf.out, Hk.out, Hs.out]; rfl, hbw2⟩
      · have He : Hid (chkAt l k = 0) := chkAt_end (by have := Hn.out; omega)
        clear hr
        go_wp2
        go_ret
        exact ⟨by rw [Hf.out, Hk.out, He.out]; rfl, hbw⟩
end Go.Proofs.Ytocdhnlffemnhaa
/- Layer 4: item.Put. -/
namespace Go.Proofs.Ytocdhnlffemnhaa
open Go.RowKit

/-- a text, a label, labels, an event, a gap, an item as they are put -/
def textB (s : ByteArray) : List Nat := leb s.size ++ bytesN s
def labsB : List Pr → List Nat
  | [] => []
  | p :: r => textB p.1 ++ textB p.2 ++ labsB r
def headB (x : It) : List Nat := [x.o] ++ leb x.q ++ leb x.t ++ textB x.r ++ leb x.l.length
def tailB (x : It) : List Nat := [x.s] ++ [x.p] ++ leb (zig x.v) ++ [x.w]
def evB (x : It) : List Nat := headB x ++ labsB x.l ++ tailB x
def gapB (x : It) : List Nat := [x.ga] ++ leb x.gf ++ leb x.gt
def itemB (x : It) : List Nat := if x.g then 1 :: gapB x else 0 :: evB x

theorem textB_length (s : ByteArray) : (textB s).length = (leb s.size).length + s.size := by rw [textB, List.length_append, bytesN_length]
theorem labsB_append : ∀ (a b : List Pr), labsB (a ++ b) = labsB a ++ labsB b
  | [], b => rfl
  | p :: r, b => by simp [labsB, labsB_append r b]
theorem labsB_take {l : List Pr} {k : Nat} {p : Pr} (h : l[k]? = some p) : labsB (l.take (k + 1)) = labsB (l.take k) ++ textB p.1 ++ textB p.2 := by
  obtain ⟨h1, rfl⟩ := List.getElem?_eq_some_iff.1 h
  rw [List.take_succ_eq_append_getElem h1, labsB_append]
  simp [labsB]
theorem labsB_le (l : List Pr) (k : Nat) : (labsB (l.take k)).length ≤ (labsB l).length := by
  conv => rhs; rw [← List.take_append_drop k l, labsB_append, List.length_append]
  omega
theorem labsB_mem {l : List Pr} {k : Nat} {p : Pr} (h : l[k]? = some p) : (labsB (l.take k)).length + (textB p.1).length + (textB p.2).length ≤ (labsB l).length := by
  have := labsB_le l (k + 1)
  rw [labsB_take h, List.length_append, List.length_append] at this
  omega

/-- the texts of x are short enough to be put -/
structure ShortI (x : It) : Prop where
  r : x.r.size ≤ 1048576
  l : ∀ (i : Nat) (p : Pr), x.l[i]? = some p → p.1.size ≤ 1048576 ∧ p.2.size ≤ 1048576

theorem EvAt.wrote {w w1 : World} {b g : Nat} {x : It} {A : Option Addr} {n c : Nat} {r r' : Option Nat} (h : EvAt w b x A n c) (hw : Wrote w w1 g r r') (hg : b ≠ g) (hr : some b ≠ r) : EvAt w1 b x A n c :=
  ⟨Nat.lt_of_lt_of_le h.lt hw.size, (hw.cell (p := ⟨b, 0, none⟩) h.lt hg hr).trans h.c0, (hw.cell (p := ⟨b, 1, none⟩) h.lt hg hr).trans h.c1, (hw.cell (p := ⟨b, 2, none⟩) h.lt hg hr).trans h.c2, (hw.cell (p := ⟨b, 3, none⟩) h.lt hg hr).trans h.c3, (hw.cell (p := ⟨b, 4, none⟩) h.lt hg hr).trans h.c4, (hw.cell (p := ⟨b, 5, none⟩) h.lt hg hr).trans h.c5, (hw.cell (p := ⟨b, 6, none⟩) h.lt hg hr).trans h.c6, (hw.cell (p := ⟨b, 7, none⟩) h.lt hg hr).trans h.c7, (hw.cell (p := ⟨b, 8, none⟩) h.lt hg hr).trans h.c8⟩
theorem ItAt.wrote {w w1 : World} {b g : Nat} {x : It} {A : Option Addr} {n c : Nat} {r r' : Option Nat} (h : ItAt w b x A n c) (hw : Wrote w w1 g r r') (hg : b ≠ g) (hr : some b ≠ r) : ItAt w1 b x A n c :=
  ⟨Nat.lt_of_lt_of_le h.lt hw.size, (hw.cell (p := ⟨b, 0, none⟩) h.lt hg hr).trans h.c0, (hw.cell (p := ⟨b, 1, none⟩) h.lt hg hr).trans h.c1, (hw.cell (p := ⟨b, 2, none⟩) h.lt hg hr).trans h.c2, (hw.cell (p := ⟨b, 3, none⟩) h.lt hg hr).trans h.c3, (hw.cell (p := ⟨b, 4, none⟩) h.lt hg hr).trans h.c4, (hw.cell (p := ⟨b, 5, none⟩) h.lt hg hr).trans h.c5, (hw.cell (p := ⟨b, 6, none⟩) h.lt hg hr).trans h.c6, (hw.cell (p := ⟨b, 7, none⟩) h.lt hg hr).trans h.c7, (hw.cell (p := ⟨b, 8, none⟩) h.lt hg hr).trans h.c8, (hw.cell (p := ⟨b, 9, none⟩) h.lt hg hr).trans h.c9, (hw.cell (p := ⟨b, 10, none⟩) h.lt hg hr).trans h.c10, (hw.cell (p := ⟨b, 11, none⟩) h.lt hg hr).trans h.c11, (hw.cell (p := ⟨b, 12, none⟩) h.lt hg hr).trans h.c12⟩

/-- labels that a Writer at g with the row r does not write to -/
def LabAt (w : World) (g : Nat) (r : Option Nat) (A : Option Addr) (l : List Pr) : Prop :=
  0 < l.length → ∃ b o, A = some ⟨b, o, none⟩ ∧ b < w.heap.size ∧ b ≠ g ∧ some b ≠ r ∧ ∀ (i : Nat) (p : Pr), l[i]? = some p → w.cell? ⟨b, o + i * 2, none⟩ = some (.string p.1) ∧ w.cell? ⟨b, o + i * 2 + 1, none⟩ = some (.string p.2)
theorem LabAt.wrote {w w1 : World} {g : Nat} {r r1 : Option Nat} {A : Option Addr} {l : List Pr} (h : LabAt w g r A l) (hw : Wrote w w1 g r r1) : LabAt w1 g r1 A l := fun h0 => by
  obtain ⟨b, o, e, hb, hg, hr, hc⟩ := h h0
  refine ⟨b, o, e, Nat.lt_of_lt_of_le hb hw.size, hg, ?_, fun i p hp => ⟨(hw.cell (p := ⟨b, _, none⟩) hb hg hr).trans (hc i p hp).1, (hw.cell (p := ⟨b, _, none⟩) hb hg hr).trans (hc i p hp).2⟩⟩
  rcases hw.row with h1 | ⟨k, h1, h2⟩
  · rw [h1]; exact hr
  · rw [h1]; intro e; injection e with e; omega
theorem LabAt.below {w w1 : World} {g : Nat} {r : Option Nat} {A : Option Addr} {l : List Pr} (h : LabAt w g r A l) (hb : Below w.heap.size w w1) : LabAt w1 g r A l := h.wrote (Wrote.of_below hb g r)
theorem LabAt.at_ {w : World} {g : Nat} {r : Option Nat} {A : Option Addr} {l : List Pr} {k : Nat} (h : LabAt w g r A l) (hk : k < l.length) : ∃ b o p, A = some ⟨b, o, none⟩ ∧ b < w.heap.size ∧ l[k]? = some p ∧ w.cell? ⟨b, o + k * 2, none⟩ = some (.string p.1) ∧ w.cell? ⟨b, o + k * 2 + 1, none⟩ = some (.string p.2) := by
  obtain ⟨b, o, e, hb, _, _, hc⟩ := h (by omega)
  have hg : l[k]? = some l[k] := List.getElem?_eq_getElem hk
  exact ⟨b, o, _, e, hb, hg, (hc k _ hg).1, (hc k _ hg).2⟩
/-- a Writer newer than the labels -/
theorem LabAt.of_rd {w : World} {g : Nat} {r : Option Nat} {A : Option Addr} {l : List Pr} {B : Nat} (h : RdP w B A l) (hB : B ≤ w.heap.size) (hg : B ≤ g) (hr : ∀ k, r = some k → g < k) : LabAt w g r A l := fun h0 => by
  obtain ⟨b, o, e, hb, hc⟩ := h h0
  exact ⟨b, o, e, by omega, by omega, fun e => by have := hr b e.symm; omega, hc⟩

theorem Wtr.row_lt {w : World} {g : Nat} {v : Value} {l : List Nat} (h : Wtr w g v l) {k : Nat} (e : v.ownBlock = some k) : k < w.heap.size := by
  exact (h.own.lt k e).2

end Go.Proofs.Ytocdhnlffemnhaa
/- Layer 4: the statements' own small item, whichever numbers. -/
namespace Go.Proofs.Ytocdhnlffemnhaa
open Go.RowKit

/-- an item, and where its labels lie -/
def ItRet (x : It) (w : World) (e : Ending) (w' : World) : Prop :=
  ∃ A n c, e = .returned (.agg #[.bool x.g, .int .u8 x.o, .int .u64 x.q, .int .u64 x.t, .string x.r, .slice A n c, .int .u8 x.s, .int .u8 x.p, .int .i64 x.v, .int .u8 x.w, .int .u8 x.ga, .int .u64 x.gf, .int .u64 x.gt]) ∧ n = x.l.length ∧ w'.ownsRow w.heap.size 116 2 (.slice A n c) n (cellsP x.l) ∧ Below w.heap.size w w'

end Go.Proofs.Ytocdhnlffemnhaa
/- Layer 1: a list of pairs that comes in: how it is read, and how it lies. -/
namespace Go.Proofs.Ytocdhnlffemnhaa
open Go.RowKit Go.ChangeShapes Go.WideShapes

/-- a pair as it is read -/
def dP {H : Type} (p : Pr) : DataW H := .agg [.lit (.string p.1.data.toList), .lit (.string p.2.data.toList)]

set_option maxRecDepth 100000 in
theorem open_pairs {H : Type} {enc : TypeId × Value → H} {W : World} {base : Nat} {sp : Nat → Bool} {hd : Bool} {r : Reach} {b0 : Nat} {v : Value} {d : DataW H} {ps : List MemPlace}
    (hval : Value.okWide Try.prog W r b0 23 v) (h0 : DataW.Trod enc Try.prog W base sp hd 23 v d ps) :
    ∃ (A : Option Addr) (n c : Nat) (l : List Pr), v = .slice A n c ∧ n = l.length ∧ n ≤ maxLen ∧ OkA A n ∧ RdP W W.heap.size A l ∧ OkP l ∧ ((A = none ∧ d = .nil ∧ l = []) ∨ ∃ spare, d = .slice (l.map dP) spare) := by
  obtain ⟨a, n, c, rfl⟩ := okWide_slice Try.underlying23 hval
  have hsp : ∀ ad, a = some ad → ad.spot = none := by
    rintro ad rfl
    simp only [Value.okWide, Try.underlying23, Cell.okWide, Cell.ok] at hval
    exact hval.2.2.2.1
  obtain ⟨fuel, hf⟩ := h0
  rcases Go.Deep.open_slice_pairs Try.underlying23 Try.underlying116 (by kernel_rfl) rfl rfl (by kernel_rfl) (by kernel_rfl) hf with ⟨hcs, hx⟩ | ⟨ad, len, cap, m, k, V0, V1, D0, D1, P0, P1, hcs, hb, hl, hm, hmm, hx, hi⟩
  · have e : a = none ∧ n = 0 ∧ c = 0 := by simpa [Value.cells] using hcs
    obtain ⟨rfl, rfl, rfl⟩ := e
    exact ⟨none, 0, 0, [], rfl, rfl, Nat.zero_le _, ⟨fun _ => rfl, fun _ h => (by cases h)⟩, RdP.none_, fun i p h => (by simp at h), .inl ⟨rfl, (Prod.mk.inj hx).1, rfl⟩⟩
  · have e : a = some ad ∧ n = len ∧ c = cap := by simpa [Value.cells] using hcs
    obtain ⟨rfl, rfl, rfl⟩ := e
    have hspot := hsp ad rfl
    obtain ⟨b, o, s⟩ := ad
    obtain rfl : s = none := hspot
    have hlm : n ≤ m := by rw [hmm]; split <;> omega
    have each : ∀ i, i < n → ∃ p : Pr, V0 i = .string p.1 ∧ V1 i = .string p.2 ∧ D0 i = .lit (.string p.1.data.toList) ∧ D1 i = .lit (.string p.2.data.toList) ∧ p.1.size ≤ maxLen ∧ p.2.size ≤ maxLen := fun i h => by
      obtain ⟨_, _, t0, t1⟩ := hi i (by omega)
      obtain ⟨s0, e0, x0, z0⟩ := DataW.trod_string Try.underlying9 t0
      obtain ⟨s1, e1, x1, z1⟩ := DataW.trod_string Try.underlying9 t1
      exact ⟨(s0, s1), (List.cons.inj e0).1, (List.cons.inj e1).1, (Prod.mk.inj x0).1, (Prod.mk.inj x1).1, z0, z1⟩
    have pick : ∃ f : Nat → Pr, ∀ i, i < n → V0 i = .string (f i).1 ∧ V1 i = .string (f i).2 ∧ D0 i = .lit (.string (f i).1.data.toList) ∧ D1 i = .lit (.string (f i).2.data.toList) ∧ (f i).1.size ≤ maxLen ∧ (f i).2.size ≤ maxLen :=
      ⟨fun i => if h : i < n then (each i h).choose else (⟨#[]⟩, ⟨#[]⟩), fun i h => by simp only [dif_pos h]; exact (each i h).choose_spec⟩
    obtain ⟨f, hf'⟩ := pick
    have hget : ∀ (i : Nat) (p : Pr), ((List.range n).map f)[i]? = some p → i < n ∧ p = f i := fun i p hp => by
      rw [List.getElem?_map] at hp
      obtain ⟨j, hj, rfl⟩ := Option.map_eq_some_iff.1 hp
      obtain ⟨h1, h2⟩ := List.getElem?_eq_some_iff.1 hj
      rw [List.length_range] at h1
      rw [List.getElem_range] at h2
      exact ⟨h1, by rw [h2]⟩
    refine ⟨some ⟨b, o, none⟩, n, c, (List.range n).map f, rfl, by simp, Nat.le_trans hl hm, ⟨fun h => (by cases h), fun a h => (by cases h; exact ⟨b, o, rfl⟩)⟩, fun h0 => ⟨b, o, rfl, ?_, fun i p hp => ?_⟩, fun i p hp => ?_, .inr ⟨(List.range (m - n)).map fun j => .agg [D0 (n + j), D1 (n + j)], ?_⟩⟩
    · have h0' : 0 < n := by simpa using h0
      exact World.block_lt_of_cell? _ _ ((hi 0 (by omega)).1)
    · obtain ⟨hin, rfl⟩ := hget i p hp
      obtain ⟨c0, c1, _, _⟩ := hi i (by omega)
      obtain ⟨v0, v1, _, _⟩ := hf' i hin
      rw [Addr.add_lit] at c0 c1
      rw [v0] at c0; rw [v1] at c1
      exact ⟨c0, by rw [Nat.add_assoc]; exact c1⟩
    · obtain ⟨hin, rfl⟩ := hget i p hp
      exact (hf' i hin).2.2.2.2
    · have h1 := (Prod.mk.inj hx).1
      rw [h1, List.map_map]
      congr 1
      refine List.map_congr_left fun i hi' => ?_
      obtain ⟨_, _, e0, e1, _⟩ := hf' i (List.mem_range.1 hi')
      rw [e0, e1]
      rfl
end Go.Proofs.Ytocdhnlffemnhaa
