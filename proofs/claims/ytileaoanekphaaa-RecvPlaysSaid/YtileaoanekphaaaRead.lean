/- Layer 1: what only reads pairs: Get, Check and the document's own. -/
import Derived.Test.YtileaoanekphaaaMem
import Derived.WalkSpells
import Derived.WalkLawsBesides
import Derived.Deep.QuietTactic
import Derived.BigQuiet
namespace Go.Proofs.Ytileaoanekphaaa
open Go.RowKit

def getP (l : List Pr) (key : ByteArray) : Option ByteArray := (l.find? fun p => eqS p.1 key).map (·.2)

theorem getP_at {l : List Pr} {key : ByteArray} {k : Nat} {p : Pr} (hp : l[k]? = some p) (hno : ∀ (j : Nat) (q : Pr), j < k → l[j]? = some q → eqS q.1 key = false) (h : eqS p.1 key = true) : getP l key = some p.2 := by
  induction l generalizing k with
  | nil => simp at hp
  | cons q l ih =>
    cases k with
    | zero => simp at hp; subst hp; simp [getP, h]
    | succ k =>
      have h0 := hno 0 q (by omega) rfl
      have := ih (k := k) (by simpa using hp) (fun j r hj hr => hno (j + 1) r (by omega) (by simpa using hr))
      simp [getP, h0] at this ⊢
      exact this
theorem getP_none {l : List Pr} {key : ByteArray} (hno : ∀ (j : Nat) (q : Pr), l[j]? = some q → eqS q.1 key = false) : getP l key = none := by
  simp only [getP, Option.map_eq_none_iff, List.find?_eq_none]
  intro x hx
  obtain ⟨j, hj⟩ := List.mem_iff_getElem?.1 hx
  simp [hno j x hj]

def prevOf (l : List Pr) : Nat → Option Pr | 0 => none | j + 1 => l[j]?
/-- what is left of Check at place k -/
def chkAt (l : List Pr) (k : Nat) : Nat := chk (prevOf l k) (l.drop k)
theorem chkAt_end {l : List Pr} {k : Nat} (h : l.length ≤ k) : chkAt l k = 0 := by
  unfold chkAt
  rw [List.drop_of_length_le h]
  cases prevOf l k <;> rfl
theorem drop_at {l : List Pr} {k : Nat} {p : Pr} (hp : l[k]? = some p) : l.drop k = p :: l.drop (k + 1) := by
  obtain ⟨h, rfl⟩ := List.getElem?_eq_some_iff.1 hp
  exact List.drop_eq_getElem_cons h
theorem chkAt_bad {l : List Pr} {k : Nat} {p : Pr} (hp : l[k]? = some p) (h : (keyB p.1 && valueB p.2) = false) : chkAt l k = 8 := by
  unfold chkAt
  rw [drop_at hp]
  cases prevOf l k <;> simp [chk, h]
theorem chkAt_zero {l : List Pr} {p : Pr} (hp : l[0]? = some p) (h1 : keyB p.1 = true) (h2 : valueB p.2 = true) : chkAt l 0 = chkAt l 1 := by
  unfold chkAt
  rw [drop_at hp]
  simp [prevOf, chk, h1, h2, hp]
theorem chkAt_succ {l : List Pr} {k : Nat} {q p : Pr} (hq : l[k]? = some q) (hp : l[k + 1]? = some p) (h1 : keyB p.1 = true) (h2 : valueB p.2 = true) :
    chkAt l (k + 1) = if eqS q.1 p.1 then 7 else if ltS p.1 q.1 then 9 else chkAt l (k + 2) := by
  unfold chkAt
  rw [drop_at hp]
  simp [prevOf, hq, chk, h1, h2, hp]

theorem less_not {a b : ByteArray} (h : Op.bytesLess a.toList b.toList = true) : Op.bytesLess b.toList a.toList = false := by
  have h1 : ltS a b = true := h
  show ltS b a = false
  cases e : ltS b a with
  | false => rfl
  | true => exact absurd (ltS_trans h1 e) (by rw [ltS_irrefl]; simp)
theorem not_less {a b : ByteArray} (h : Op.bytesLess a.toList b.toList = false) (he : (b.toList == a.toList) = false) : Op.bytesLess b.toList a.toList = true := by
  cases e : Op.bytesLess b.toList a.toList with
  | true => rfl
  | false =>
    have := ltS_total (a := a) (b := b) h e
    subst this
    simp at he

theorem errno_ret {a b : Nat} (h : a = b) : Ending.returned (.int .i64 (a : Nat)) = .returned (.int .i64 (b : Nat)) := by rw [h]

set_option maxRecDepth 100000 in
set_option maxHeartbeats 400000 in
theorem check_any (A : Option Addr) (n c : Nat) (l : List Pr) (w : World) (hn : n = l.length) (hm : n ≤ maxLen) (hr : RdP w w.heap.size A l) :
    Calls Try.prog 40 #[.slice A n c] w fun e w' => e = .returned (.int .i64 (check l : Nat)) ∧ Below w.heap.size w w' := by
  unfold maxLen at hm
  by_cases h8 : 8 < n
  · have hf : check l = 5 := by rw [check, if_pos (by omega)]
    have Hf := Lib.hid hf
    have Hn := Lib.hid hn
    clear hf hn
    go_enter Try.func40, Try.ntmps40
    go_wp2
    go_ret
    exact ⟨by rw [Hf.out]; rfl, Below.refl _ _⟩
  · have hf : check l = chkAt l 0 := by rw [check, if_neg (by omega)]; rfl
    have Hf := Lib.hid hf
    have Hn := Lib.hid hn
    clear hf hn
    have h8' : decide (8 < n) = false := by simpa using h8
    go_enter Try.func40, Try.ntmps40
    go_wp2
    go_loopw [10] (fun i wr => ∃ k : Nat, k ≤ n ∧ i = .int .i64 k ∧ Hid (chkAt l 0 = chkAt l k) ∧ Below w.heap.size w wr) (fun i _ => n - (intOf i).toNat)
    case atStart => exact ⟨0, Nat.zero_le _, rfl, rfl, Below.refl _ _⟩
    case round =>
      obtain ⟨k, hk, rfl, Hk, hbw⟩ := hrel
      by_cases hlt : k < n
      · by_cases hkv : (∃ p, l[k]? = some p ∧ keyB p.1 = true ∧ valueB p.2 = true)
        · obtain ⟨p, hp, hkey, hval⟩ := hkv
          have Hkey := Lib.hid hkey
          have Hval := Lib.hid hval
          have Hp := Lib.hid hp
          clear hkey hval hp
          rcases Nat.eq_zero_or_pos k with h0 | h0
          · subst h0
            obtain ⟨b, o, p', hA, hb, hp', hc1, hc2⟩ := (hr.below hbw).at_ (k := 0) (by have := Hn.out; omega)
            obtain rfl : p = p' := Option.some.inj (Hp.out.symm.trans hp')
            subst hA
            clear hr hp'
            simp only [Nat.zero_mul, Nat.add_zero] at hc1 hc2
            go_wp2_with fail
            refine (key_any _ _).mono ?_
            rintro e w2 ⟨rfl, hb2⟩
            rw [Hkey.out]
            obtain ⟨d1, d2, hbw2, hg2⟩ := boxed hbw hbw.size hb2
            clear hb2 hc1 hc2
            go_wp2_with fail
            refine (value_any _ _).mono ?_
            rintro e w3 ⟨rfl, hb3⟩
            rw [Hval.out]
            obtain ⟨e1, e2, hbw3, hg3⟩ := later d1 d2 hbw2 hg2 hbw2.size hb3
            clear hb3 d1 d2
            go_wp2
            exact ⟨⟨1, by omega, rfl, chkAt_zero Hp.out Hkey.out Hval.out, hbw3⟩, by simp [intOf]; omega⟩
          · obtain ⟨j, rfl⟩ : ∃ j, k = j + 1 := ⟨k - 1, by omega⟩
            obtain ⟨b, o, q, p', hA, hb, hq, hp', hc⟩ := hr.two (j := j) (by have := Hn.out; omega)
            obtain rfl : p = p' := Option.some.inj (Hp.out.symm.trans hp')
            subst hA
            have hs := chkAt_succ hq Hp.out Hkey.out Hval.out
            have Hs := Lib.hid hs
            have Hc := Lib.hid hc
            clear hr hp' hq hs hc
            obtain ⟨-, -, hc1, hc2⟩ := Hc.out wr hbw
            have hb0 : ((j : Int) + 1 == 0) = false := beq_eq_false_iff_ne.2 (by omega)
            go_wp2_with fail
            refine (key_any _ _).mono ?_
            rintro e w2 ⟨rfl, hb2⟩
            rw [Hkey.out]
            obtain ⟨d1, d2, hbw2, hg2⟩ := boxed hbw hbw.size hb2
            clear hb2 hc1 hc2
            go_wp2_with fail
            refine (value_any _ _).mono ?_
            rintro e w3 ⟨rfl, hb3⟩
            rw [Hval.out]
            obtain ⟨e1, e2, hbw3, hg3⟩ := later d1 d2 hbw2 hg2 hbw2.size hb3
            clear hb3 d1 d2
            obtain ⟨f1, f2, -, -⟩ := Hc.out w3 hbw3
            by_cases he : (q.1.toList == p.1.toList) = true
            · have Hs' : Hid (chkAt l (j + 1) = 7) := by rw [Hs.out, eqS, if_pos he]; rfl
              go_wp2
              go_quiet (fail)
              go_wp2
              go_ret
              exact ⟨by rw [Hf.out, Hk.out, Hs'.out]; rfl, below_drewN hbw3 _⟩
            · have he : (q.1.toList == p.1.toList) = false := by simpa using he
              by_cases hl : Op.bytesLess p.1.toList q.1.toList = true
              · have Hs' : Hid (chkAt l (j + 1) = 9) := by rw [Hs.out, eqS, he, ltS, if_neg (by simp), if_pos hl]; rfl
                have hl2 := less_not hl
                go_wp2
                go_quiet (fail)
                go_wp2
                go_quiet (fail)
                go_wp2
                go_ret
                exact ⟨by rw [Hf.out, Hk.out, Hs'.out]; rfl, below_drewN (below_drewN hbw3 _) _⟩
              · have hl : Op.bytesLess p.1.toList q.1.toList = false := by simpa using hl
                have Hs' : Hid (chkAt l (j + 1) = chkAt l (j + 2)) := by rw [Hs.out, eqS, he, ltS, hl]; rfl
                have hl2 := not_less hl he
                go_wp2
                go_quiet (fail)
                go_wp2
                go_quiet (fail)
                go_wp2
                exact ⟨⟨j + 1 + 1, by omega, by go_num, Hk.out.trans Hs'.out, below_drewN hbw3 _⟩, by simp [intOf]; omega⟩
        · obtain ⟨b, o, p, hA, hb, hp, hc1, hc2⟩ := (hr.below hbw).at_ (k := k) (by have := Hn.out; omega)
          subst hA
          have Hp := Lib.hid hp
          have hk0 : ¬ (keyB p.1 = true ∧ valueB p.2 = true) := fun h => hkv ⟨p, hp, h.1, h.2⟩
          have Hs : Hid (chkAt l k = 8) := chkAt_bad hp (by rw [Bool.and_eq_false_iff]; by_cases h : keyB p.1 = true <;> simp_all)
          have Hkv := Lib.hid hk0
          clear hkv hr hp hk0
          by_cases hkey : keyB p.1 = true
          · have hval : valueB p.2 = false := by
              cases e : valueB p.2 with
              | false => rfl
              | true => exact absurd ⟨hkey, e⟩ Hkv.out
            have Hkey := Lib.hid hkey
            have Hval := Lib.hid hval
            clear hkey hval
            go_wp2_with fail
            refine (key_any _ _).mono ?_
            rintro e w2 ⟨rfl, hb2⟩
            rw [Hkey.out]
            obtain ⟨d1, d2, hbw2, hg2⟩ := boxed hbw hbw.size hb2
            clear hb2 hc1 hc2
            go_wp2_with fail
            refine (value_any _ _).mono ?_
            rintro e w3 ⟨rfl, hb3⟩
            rw [Hval.out]
            obtain ⟨e1, e2, hbw3, hg3⟩ := later d1 d2 hbw2 hg2 hbw2.size hb3
            clear hb3 d1 d2
            go_wp2
            go_ret
            exact ⟨by rw [Hf.out, Hk.out, Hs.out]; rfl, hbw3⟩
          · have hkey : keyB p.1 = false := by simpa using hkey
            have Hkey := Lib.hid hkey
            clear hkey
            go_wp2_with fail
            refine (key_any _ _).mono ?_
            rintro e w2 ⟨rfl, hb2⟩
            rw [Hkey.out]
            obtain ⟨d1, d2, hbw2, hg2⟩ := boxed hbw hbw.size hb2
            clear hb2 hc1 hc2
            go_wp2
            go_ret
            exact ⟨by rw [Hf.out, Hk.out, Hs.out]; rfl, hbw2⟩
      · have He : Hid (chkAt l k = 0) := chkAt_end (by have := Hn.out; omega)
        clear hr
        go_wp2
        go_ret
        exact ⟨by rw [Hf.out, Hk.out, He.out]; rfl, hbw⟩
set_option maxRecDepth 100000 in
set_option maxHeartbeats 400000 in
theorem rcheck_any (A : Option Addr) (n c : Nat) (l : List Pr) (w : World) (hn : n = l.length) (hm : n ≤ maxLen) (hr : RdP w w.heap.size A l) (hok : OkP l) :
    Calls Try.prog 31 #[.slice A n c] w fun e w' => e = .returned (.int .i64 (check l : Nat)) ∧ Below w.heap.size w w' := by
  have Hok := Lib.hid hok
  clear hok
  unfold maxLen at hm
  by_cases h8 : 8 < n
  · have hf : check l = 5 := by rw [check, if_pos (by omega)]
    have Hf := Lib.hid hf
    have Hn := Lib.hid hn
    clear hf hn
    go_enter Try.func31, Try.ntmps31
    go_wp2
    go_ret
    exact ⟨by rw [Hf.out]; rfl, Below.refl _ _⟩
  · have hf : check l = chkAt l 0 := by rw [check, if_neg (by omega)]; rfl
    have Hf := Lib.hid hf
    have Hn := Lib.hid hn
    clear hf hn
    have h8' : decide (8 < n) = false := by simpa using h8
    go_enter Try.func31, Try.ntmps31
    go_wp2
    go_loopw [3] (fun i wr => ∃ k : Nat, k ≤ n ∧ i = .int .i64 k ∧ Hid (chkAt l 0 = chkAt l k) ∧ Below w.heap.size w wr) (fun i _ => n - (intOf i).toNat)
    case atStart => exact ⟨0, Nat.zero_le _, rfl, rfl, Below.refl _ _⟩
    case round =>
      obtain ⟨k, hk, rfl, Hk, hbw⟩ := hrel
      by_cases hlt : k < n
      · by_cases hkv : (∃ p, l[k]? = some p ∧ keyB p.1 = true ∧ valueB p.2 = true)
        · obtain ⟨p, hp, hkey, hval⟩ := hkv
          have Hz := Lib.hid (Hok.out _ _ hp)
          have Hkey := Lib.hid hkey
          have Hval := Lib.hid hval
          have Hp := Lib.hid hp
          clear hkey hval hp
          rcases Nat.eq_zero_or_pos k with h0 | h0
          · subst h0
            obtain ⟨b, o, p', hA, hb, hp', hc1, hc2⟩ := (hr.below hbw).at_ (k := 0) (by have := Hn.out; omega)
            obtain rfl : p = p' := Option.some.inj (Hp.out.symm.trans hp')
            subst hA
            clear hr hp'
            simp only [Nat.zero_mul, Nat.add_zero] at hc1 hc2
            go_wp2_with fail
            refine (rkey_any _ Hz.out.1 _).mono ?_
            rintro e w2 ⟨rfl, rfl⟩
            rw [Hkey.out]
            go_wp2_with fail
            refine (rvalue_any _ Hz.out.2 _).mono ?_
            rintro e w2 ⟨rfl, rfl⟩
            rw [Hval.out]
            go_wp2
            go_quiet (fail)
            go_wp2
            go_quiet (fail)
            go_wp2
            exact ⟨⟨1, by omega, rfl, chkAt_zero Hp.out Hkey.out Hval.out, below_drewN hbw _⟩, by simp [intOf]; omega⟩
          · obtain ⟨j, rfl⟩ : ∃ j, k = j + 1 := ⟨k - 1, by omega⟩
            obtain ⟨b, o, q, p', hA, hb, hq, hp', hc⟩ := hr.two (j := j) (by have := Hn.out; omega)
            obtain rfl : p = p' := Option.some.inj (Hp.out.symm.trans hp')
            subst hA
            have hs := chkAt_succ hq Hp.out Hkey.out Hval.out
            have Hs := Lib.hid hs
            have Hc := Lib.hid hc
            clear hr hp' hq hs hc
            obtain ⟨hc0, -, hc1, hc2⟩ := Hc.out wr hbw
            have hb0 : decide ((0 : Int) < (j : Int) + 1) = true := decide_eq_true (by omega)
            go_wp2_with fail
            refine (rkey_any _ Hz.out.1 _).mono ?_
            rintro e w2 ⟨rfl, rfl⟩
            rw [Hkey.out]
            go_wp2_with fail
            refine (rvalue_any _ Hz.out.2 _).mono ?_
            rintro e w2 ⟨rfl, rfl⟩
            rw [Hval.out]
            by_cases he : (q.1.toList == p.1.toList) = true
            · have Hs' : Hid (chkAt l (j + 1) = 7) := by rw [Hs.out, eqS, if_pos he]; rfl
              go_wp2
              go_quiet (fail)
              go_wp2
              go_ret
              exact ⟨by rw [Hf.out, Hk.out, Hs'.out]; rfl, below_drewN hbw _⟩
            · have he : (q.1.toList == p.1.toList) = false := by simpa using he
              by_cases hl : Op.bytesLess p.1.toList q.1.toList = true
              · have Hs' : Hid (chkAt l (j + 1) = 9) := by rw [Hs.out, eqS, he, ltS, if_neg (by simp), if_pos hl]; rfl
                have hl2 := less_not hl
                go_wp2
                go_quiet (fail)
                go_wp2
                go_quiet (fail)
                go_wp2
                go_ret
                exact ⟨by rw [Hf.out, Hk.out, Hs'.out]; rfl, below_drewN (below_drewN hbw _) _⟩
              · have hl : Op.bytesLess p.1.toList q.1.toList = false := by simpa using hl
                have Hs' : Hid (chkAt l (j + 1) = chkAt l (j + 2)) := by rw [Hs.out, eqS, he, ltS, hl]; rfl
                have hl2 := not_less hl he
                go_wp2
                go_quiet (fail)
                go_wp2
                go_quiet (fail)
                go_wp2
                exact ⟨⟨j + 1 + 1, by omega, by go_num, Hk.out.trans Hs'.out, below_drewN hbw _⟩, by simp [intOf]; omega⟩
        · obtain ⟨b, o, p, hA, hb, hp, hc1, hc2⟩ := (hr.below hbw).at_ (k := k) (by have := Hn.out; omega)
          subst hA
          have Hz := Lib.hid (Hok.out _ _ hp)
          have Hp := Lib.hid hp
          have hk0 : ¬ (keyB p.1 = true ∧ valueB p.2 = true) := fun h => hkv ⟨p, hp, h.1, h.2⟩
          have Hs : Hid (chkAt l k = 8) := chkAt_bad hp (by rw [Bool.and_eq_false_iff]; by_cases h : keyB p.1 = true <;> simp_all)
          have Hkv := Lib.hid hk0
          clear hkv hr hp hk0
          by_cases hkey : keyB p.1 = true
          · have hval : valueB p.2 = false := by
              cases e : valueB p.2 with
              | false => rfl
              | true => exact absurd ⟨hkey, e⟩ Hkv.out
            have Hkey := Lib.hid hkey
            have Hval := Lib.hid hval
            clear hkey hval
            go_wp2_with fail
            refine (rkey_any _ Hz.out.1 _).mono ?_
            rintro e w2 ⟨rfl, rfl⟩
            rw [Hkey.out]
            go_wp2_with fail
            refine (rvalue_any _ Hz.out.2 _).mono ?_
            rintro e w2 ⟨rfl, rfl⟩
            rw [Hval.out]
            go_wp2
            go_ret
            exact ⟨by rw [Hf.out, Hk.out, Hs.out]; rfl, hbw⟩
          · have hkey : keyB p.1 = false := by simpa using hkey
            have Hkey := Lib.hid hkey
            clear hkey
            go_wp2_with fail
            refine (rkey_any _ Hz.out.1 _).mono ?_
            rintro e w2 ⟨rfl, rfl⟩
            rw [Hkey.out]
            go_wp2
            go_ret
            exact ⟨by rw [Hf.out, Hk.out, Hs.out]; rfl, hbw⟩
      · have He : Hid (chkAt l k = 0) := chkAt_end (by have := Hn.out; omega)
        clear hr
        go_wp2
        go_ret
        exact ⟨by rw [Hf.out, Hk.out, He.out]; rfl, hbw⟩
end Go.Proofs.Ytileaoanekphaaa
