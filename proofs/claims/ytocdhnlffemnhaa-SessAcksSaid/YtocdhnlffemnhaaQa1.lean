/- Several texts in one: Words, Plain, Mem. -/
import Derived.Test.YtocdhnlffemnhaaChecked
import Derived.WalkKit
import Derived.Lib.Hide
import Derived.Below
import Derived.OneCell
import Derived.Laws.OwnMore
import Derived.Laws.Strings
import Derived.Deep.AppendLies
import Derived.Deep.Draws
import Derived.Lib.Bytealg
import Derived.Sort.Walk0
import Derived.Sort.Statements
/- Layer 1, single characters and words: contracts of lab.letter, lab.sign, lab.fits, lab.Key, lab.Value, lab.Name and of the document's own Key, Value, Name. -/
namespace Go.Proofs.Ytocdhnlffemnhaa
open Go.RowKit

/-- a small letter, as a number -/
def lowN (n : Nat) : Bool := decide (97 ≤ n) && decide (n ≤ 122)
/-- a sign of a value, as a number -/
def signN (n : Nat) : Bool := lowN n || (decide (48 ≤ n) && decide (n ≤ 57)) || n == 46 || n == 95 || n == 45

def lowB (c : UInt8) : Bool := lowN c.toNat
def signB (c : UInt8) : Bool := signN c.toNat

theorem ret_bool {a b : Bool} (h : a = b) : Ending.returned (.bool a) = .returned (.bool b) := by rw [h]

theorem lowN_yes {n : Nat} (h1 : 97 ≤ n) (h2 : n ≤ 122) : lowN n = true := by simp [lowN, h1, h2]
theorem lowN_no {n : Nat} (h : ¬ (97 ≤ n ∧ n ≤ 122)) : lowN n = false := by
  cases e : lowN n with
  | false => rfl
  | true => simp [lowN] at e; exact absurd e h

set_option maxHeartbeats 400000 in
theorem letter_any (n : Nat) (w : World) :
    Calls Try.prog 58 #[.int .i32 n] w fun e w' => e = .returned (.bool (lowN n)) ∧ w = w' := by
  by_cases h1 : 97 ≤ n
  · by_cases h2 : n ≤ 122
    all_goals
      go_enter Try.func58, Try.ntmps58
      go_wp2
      go_ret
      refine ⟨ret_bool ?_, rfl⟩
      simp [lowN, h1, h2]
      try omega
  · go_enter Try.func58, Try.ntmps58
    go_wp2
    go_ret
    refine ⟨ret_bool ?_, rfl⟩
    simp [lowN, h1]

set_option maxHeartbeats 400000 in
theorem sign_any (n : Nat) (w : World) :
    Calls Try.prog 57 #[.int .i32 n] w fun e w' => e = .returned (.bool (signN n)) ∧ w = w' := by
  by_cases h1 : lowN n = true
  · go_enter Try.func57, Try.ntmps57
    go_wp2_with (go_at_call 58; refine (letter_any _ _).mono ?_; rintro e w' ⟨rfl, rfl⟩)
    go_ret
    refine ⟨ret_bool ?_, rfl⟩
    simp [signN, h1]
  · have h1 : lowN n = false := by simpa using h1
    by_cases h2 : 48 ≤ n
    all_goals
      go_enter Try.func57, Try.ntmps57
      go_wp2_with (go_at_call 58; refine (letter_any _ _).mono ?_; rintro e w' ⟨rfl, rfl⟩)
      all_goals go_ret
      all_goals refine ⟨ret_bool ?_, rfl⟩
      all_goals rw [Bool.eq_iff_iff]
      all_goals simp [signN, h1]
      all_goals omega

/-- one to most characters, all allowed -/
def fitsB (p : Nat → Bool) (m : Nat) (s : ByteArray) : Bool := decide (0 < s.size) && decide (s.size ≤ m) && s.data.toList.all fun c => p c.toNat

theorem all_at (s : ByteArray) (p : Nat → Bool) (i : Nat) (hi : i < s.size) (h : p (s[i]'hi).toNat = false) : (s.data.toList.all fun c => p c.toNat) = false := by
  rw [List.all_eq_false]
  exact ⟨s[i]'hi, by show s.data[i] ∈ s.data.toList; simp, by simp [h]⟩
theorem all_up (s : ByteArray) (p : Nat → Bool) (h : ∀ i, (hi : i < s.size) → p (s[i]'hi).toNat = true) : (s.data.toList.all fun c => p c.toNat) = true := by
  rw [List.all_eq_true]
  intro c hc
  obtain ⟨i, hi, rfl⟩ := List.mem_iff_getElem.1 hc
  exact h i (by simpa using hi)

/-- the first i characters are allowed -/
def UpTo (p : Nat → Bool) (s : ByteArray) (i : Nat) : Prop := ∀ j, j < i → (hj : j < s.size) → p (s[j]'hj).toNat = true

set_option maxRecDepth 100000 in
set_option maxHeartbeats 400000 in
theorem fits_any (g : FuncId) (p : Nat → Bool) (eg : ∀ args w, (callFunc g args).run Try.prog w = .ok (.enter g args) w) (hg : ∀ (n : Nat) (w : World), Calls Try.prog g #[.int .i32 n] w fun e w' => e = .returned (.bool (p n)) ∧ w = w') (hp : ∀ n, 128 ≤ n → p n = false)
    (s : ByteArray) (m : Nat) (w : World) :
    Calls Try.prog 56 #[.string s, .int .i64 m, .func (.func g) #[] #[]] w fun e w' => e = .returned (.bool (fitsB p m s)) ∧ Below w.heap.size w w' := by
  have Hg := Lib.hid hg
  have Hp := Lib.hid hp
  clear hg hp
  by_cases h0 : s.size = 0
  · have hb : ((s.size : Int) == 0) = true := beq_iff_eq.2 (by omega)
    go_enter Try.func56, Try.ntmps56
    go_wp2
    go_ret
    exact ⟨ret_bool (by simp [fitsB]; omega), Below.refl _ _⟩
  · have hs : 0 < s.size := by omega
    have hb : ((s.size : Int) == 0) = false := beq_eq_false_iff_ne.2 (by omega)
    by_cases h1 : s.size ≤ m
    · have hb2 : decide (m < s.size) = false := by simp; omega
      go_enter Try.func56, Try.ntmps56
      go_wp2
      go_loopw [] (fun wr => ∃ pos : Nat, wr = w.iter s pos ∧ pos ≤ s.size ∧ UpTo p s pos) (fun wr => s.size - wr.iterPos w.heap.size)
      case atStart => exact ⟨0, rfl, by omega, fun j hj => by omega⟩
      case round =>
        obtain ⟨pos, rfl, hpos, hup⟩ := hrel
        by_cases hlt : pos < s.size
        · have hnx : ∀ ty, (Instr.next (.pointer (some ⟨w.heap.size, 0, none⟩)) true ty).run Try.prog (w.iter s pos) = _ := fun ty => run_next_any w s pos ty hlt
          have Hup := Lib.hid hup
          clear hup
          by_cases ha : (s[pos]'hlt).toNat < 128
          · rw [decode_ascii s pos hlt ha] at hnx
            obtain ⟨n, hn⟩ : ∃ n, (s[pos]'hlt).toNat = n := ⟨_, rfl⟩
            rw [hn] at hnx ha
            have Hn := Lib.hid hn
            have Ha := Lib.hid ha
            clear hn ha
            by_cases hpn : p n = true
            · go_wp2_with fail
              refine (Hg.out _ _).mono ?_
              rintro e w' ⟨rfl, rfl⟩
              go_wp2
              refine ⟨⟨pos + 1, rfl, by omega, fun j hj hjs => ?_⟩, by simp; omega⟩
              by_cases hjp : j = pos
              · subst hjp
                rw [Hn.out]
                exact hpn
              · exact Hup.out j (by omega) hjs
            · have hpn : p n = false := by simpa using hpn
              go_wp2_with fail
              refine (Hg.out _ _).mono ?_
              rintro e w' ⟨rfl, rfl⟩
              go_wp2
              go_ret
              exact ⟨ret_bool (by rw [fitsB, all_at s p pos hlt (by rw [Hn.out]; exact hpn)]; simp), (Below.refl _ _).alloc (Nat.le_refl _) _⟩
          · have hhi := (decode_high s pos hlt (by omega)).1
            obtain ⟨n, hn⟩ : ∃ n, (Utf8.decode s pos).1 = n := ⟨_, rfl⟩
            obtain ⟨st, hst⟩ : ∃ n, (Utf8.decode s pos).2 = n := ⟨_, rfl⟩
            rw [hn, hst] at hnx
            have hpn : p n = false := Hp.out n (by omega)
            have hpb : p (s[pos]'hlt).toNat = false := Hp.out _ (by omega)
            have Hb := Lib.hid hpb
            clear hn hst hhi ha hpb
            go_wp2_with fail
            refine (Hg.out _ _).mono ?_
            rintro e w' ⟨rfl, rfl⟩
            go_wp2
            go_ret
            exact ⟨ret_bool (by rw [fitsB, all_at s p pos hlt Hb.out]; simp), (Below.refl _ _).alloc (Nat.le_refl _) _⟩
        · have hnx : ∀ ty, (Instr.next (.pointer (some ⟨w.heap.size, 0, none⟩)) true ty).run Try.prog (w.iter s pos) = _ := fun ty => run_next_end w s pos ty hlt
          have hfin : fitsB p m s = true := by
            rw [fitsB, all_up s p (fun i hi => hup i (by omega) hi)]
            simp; omega
          have Hfin := Lib.hid hfin
          clear hup hfin
          go_wp2
          go_ret
          exact ⟨ret_bool Hfin.out.symm, (Below.refl _ _).alloc (Nat.le_refl _) _⟩
    · have hb2 : decide (m < s.size) = true := by simp; omega
      go_enter Try.func56, Try.ntmps56
      go_wp2
      go_ret
      exact ⟨ret_bool (by simp [fitsB]; omega), Below.refl _ _⟩

theorem low_hi (n : Nat) (h : 128 ≤ n) : lowN n = false := lowN_no (by omega)
theorem sign_hi (n : Nat) (h : 128 ≤ n) : signN n = false := by
  rw [signN, low_hi n h]
  simp; omega

theorem eLetter (args : Array Value) (w : World) : (callFunc 58 args).run Try.prog w = .ok (.enter 58 args) w := by
  kernel_rfl

theorem eSign (args : Array Value) (w : World) : (callFunc 57 args).run Try.prog w = .ok (.enter 57 args) w := by
  kernel_rfl

def keyB (s : ByteArray) : Bool := fitsB lowN 8 s
def valueB (s : ByteArray) : Bool := fitsB signN 16 s
def firstLow (s : ByteArray) : Bool := lowN (s.data.toList.headD 0).toNat
def nameB (s : ByteArray) : Bool := fitsB signN 12 s && firstLow s

theorem fitsB_pos {p : Nat → Bool} {m : Nat} {s : ByteArray} (h : fitsB p m s = true) : 0 < s.size := by
  simp [fitsB] at h; exact h.1.1
theorem headD_at (l : List UInt8) (h : 0 < l.length) : l.headD 0 = l[0]'h := by
  cases l with
  | nil => exact absurd h (by simp)
  | cons a l => rfl
theorem firstLow_eq (s : ByteArray) (h : 0 < s.size) : firstLow s = lowN (s[0]'h).toNat := by
  have e : s.data.toList.headD 0 = s[0]'h := by
    show s.data.toList.headD 0 = s.data[0]'h
    have e1 : s.data[0]'h = s.data.toList[0]'(by simpa using h) := (Array.getElem_toList h).symm
    rw [e1]
    have hl : 0 < s.data.toList.length := by simpa using h
    exact (headD_at _ hl)
  rw [firstLow, e]

set_option maxHeartbeats 400000 in
theorem key_any (s : ByteArray) (w : World) :
    Calls Try.prog 60 #[.string s] w fun e w' => e = .returned (.bool (keyB s)) ∧ Below w.heap.size w w' := by
  go_enter Try.func60, Try.ntmps60
  go_wp2_with fail
  refine (fits_any 58 lowN eLetter letter_any low_hi s 8 _).mono ?_
  rintro e w1 ⟨rfl, hb⟩
  go_wp2
  go_ret
  exact ⟨rfl, hb⟩
set_option maxHeartbeats 400000 in
theorem value_any (s : ByteArray) (w : World) :
    Calls Try.prog 61 #[.string s] w fun e w' => e = .returned (.bool (valueB s)) ∧ Below w.heap.size w w' := by
  go_enter Try.func61, Try.ntmps61
  go_wp2_with fail
  refine (fits_any 57 signN eSign sign_any sign_hi s 16 _).mono ?_
  rintro e w1 ⟨rfl, hb⟩
  go_wp2
  go_ret
  exact ⟨rfl, hb⟩
set_option maxHeartbeats 400000 in
theorem name_any (s : ByteArray) (w : World) :
    Calls Try.prog 53 #[.string s] w fun e w' => e = .returned (.bool (nameB s)) ∧ Below w.heap.size w w' := by
  by_cases h : fitsB signN 12 s = true
  · have hpos := fitsB_pos h
    have hf := firstLow_eq s hpos
    have hn : (s[0]'hpos).toNat ≤ 255 := by have := (s[0]'hpos).toNat_lt; omega
    have Hf := Lib.hid hf
    have H := Lib.hid h
    clear hf h
    go_enter Try.func53, Try.ntmps53
    go_wp2_with fail
    refine (fits_any 57 signN eSign sign_any sign_hi s 12 _).mono ?_
    rintro e w1 ⟨rfl, hb⟩
    rw [H.out]
    go_wp2_with fail
    refine (letter_any _ _).mono ?_
    rintro e w' ⟨rfl, rfl⟩
    go_wp2
    go_ret
    exact ⟨ret_bool (by rw [nameB, H.out, Hf.out]; rfl), hb⟩
  · have h : fitsB signN 12 s = false := by simpa using h
    have H := Lib.hid h
    clear h
    go_enter Try.func53, Try.ntmps53
    go_wp2_with fail
    refine (fits_any 57 signN eSign sign_any sign_hi s 12 _).mono ?_
    rintro e w1 ⟨rfl, hb⟩
    rw [H.out]
    go_wp2
    go_ret
    exact ⟨ret_bool (by rw [nameB, H.out]; rfl), hb⟩

theorem B_lt (c : UInt8) : c.toNat ≤ 255 := by have := c.toNat_lt; omega

theorem upTo_succ {p : Nat → Bool} {s : ByteArray} {k : Nat} (h : UpTo p s k) (hk : k < s.size) (hp : p (s[k]'hk).toNat = true) : UpTo p s (k + 1) := by
  intro j hj hjs
  by_cases hjk : j = k
  · subst hjk; exact hp
  · exact h j (by omega) hjs
theorem sign_cases {n : Nat} (h : lowN n = false) (hn : signN n = true) : ((48 : Int) ≤ n ∧ (n : Int) ≤ 57) ∨ (n : Int) = 46 ∨ (n : Int) = 95 ∨ (n : Int) = 45 := by
  rw [signN, h] at hn; simp at hn; omega
theorem sign_not {n : Nat} (h : lowN n = false) (hn : signN n = false) : ((n : Int) < 48 ∨ ((48 : Int) ≤ n ∧ (57 : Int) < n)) ∧ (n : Int) ≠ 46 ∧ (n : Int) ≠ 95 ∧ (n : Int) ≠ 45 := by
  rw [signN, h] at hn; simp at hn; omega
theorem val_no {s : ByteArray} {k : Nat} (hk : k < s.size) (h : signN (s[k]'hk).toNat = false) : false = valueB s := by
  rw [valueB, fitsB, all_at s signN k hk h]; simp

theorem name_value {s : ByteArray} (h : valueB s = true) : fitsB signN 12 s = decide (s.size ≤ 12) := by
  simp [valueB, fitsB] at h
  have ha : (s.data.toList.all fun c => signN c.toNat) = true := by simpa using h.2
  simp only [fitsB, ha]
  rw [Bool.eq_iff_iff]; simp; omega
theorem name_novalue {s : ByteArray} (h : valueB s = false) : fitsB signN 12 s = false := by
  cases e : fitsB signN 12 s with
  | false => rfl
  | true =>
    exfalso
    have : valueB s = true := by
      simp only [fitsB, Bool.and_eq_true, decide_eq_true_eq] at e
      simp only [valueB, fitsB, Bool.and_eq_true, decide_eq_true_eq]
      exact ⟨⟨e.1.1, by omega⟩, e.2⟩
    rw [h] at this; cases this

end Go.Proofs.Ytocdhnlffemnhaa
/- Layer 1, plain words: pairs, their order, what labels are; how a slice of pairs lies in memory. No program is named here. -/
namespace Go.Proofs.Ytocdhnlffemnhaa
open Go.RowKit

abbrev Pr := ByteArray × ByteArray
def encP (p : Pr) : List Value := [.string p.1, .string p.2]
def cellsP (l : List Pr) : List Value := l.flatMap encP

theorem cellsP_length (l : List Pr) : (cellsP l).length = l.length * 2 := by
  induction l with
  | nil => rfl
  | cons p l ih => simp only [cellsP, List.flatMap_cons, List.length_append] at *; rw [ih]; simp [encP]; omega
theorem cellsP_append (a b : List Pr) : cellsP (a ++ b) = cellsP a ++ cellsP b := by simp [cellsP]
theorem cellsP_get (l : List Pr) (i : Nat) (p : Pr) (h : l[i]? = some p) : (cellsP l)[i * 2]? = some (.string p.1) ∧ (cellsP l)[i * 2 + 1]? = some (.string p.2) := by
  induction l generalizing i with
  | nil => simp at h
  | cons q l ih =>
    cases i with
    | zero =>
      simp at h; subst h
      simp [cellsP, encP]
    | succ i =>
      simp at h
      obtain ⟨h1, h2⟩ := ih i h
      have e : cellsP (q :: l) = .string q.1 :: .string q.2 :: cellsP l := rfl
      rw [e, show (i + 1) * 2 = i * 2 + 2 from by omega]
      exact ⟨by simpa using h1, by simpa using h2⟩
theorem cellsP_one (l : List Pr) : ∀ u ∈ cellsP l, u.oneCell' = true := by
  intro u hu
  simp only [cellsP, List.mem_flatMap] at hu
  obtain ⟨p, _, hp⟩ := hu
  simp [encP] at hp
  rcases hp with rfl | rfl <;> rfl

/-- strings: equal, less -/
def eqS (a b : ByteArray) : Bool := a.toList == b.toList
def ltS (a b : ByteArray) : Bool := Op.bytesLess a.toList b.toList
theorem eqS_iff (a b : ByteArray) : eqS a b = true ↔ a = b := by
  unfold eqS
  rw [ByteArray.toList_eq, ByteArray.toList_eq, beq_iff_eq]
  constructor
  · intro h
    cases a; cases b
    simp at h
    simpa using h
  · intro h; rw [h]
theorem eqS_refl (a : ByteArray) : eqS a a = true := (eqS_iff a a).2 rfl
theorem ltS_eq (a b : ByteArray) : ltS a b = decide (a.data.toList < b.data.toList) := by
  unfold ltS
  rw [bytesLess_eq, ByteArray.toList_eq, ByteArray.toList_eq]

/-- one pair comes ahead of another one -/
def ltP (p q : Pr) : Bool := if eqS p.1 q.1 then ltS p.2 q.2 else ltS p.1 q.1

theorem ltS_irrefl (a : ByteArray) : ltS a a = false := by rw [ltS_eq]; simp [List.lt_irrefl]
theorem ltS_trans {a b c : ByteArray} (h1 : ltS a b = true) (h2 : ltS b c = true) : ltS a c = true := by
  rw [ltS_eq] at *
  simp only [decide_eq_true_eq] at *
  exact List.lt_trans h1 h2
theorem ltS_total {a b : ByteArray} (h1 : ltS a b = false) (h2 : ltS b a = false) : a = b := by
  rw [ltS_eq] at *
  simp only [decide_eq_false_iff_not] at *
  have h : a.data.toList = b.data.toList := List.le_antisymm (List.not_lt.1 h2) (List.not_lt.1 h1)
  cases a; cases b
  simp at h
  simpa using h

/-- the pair's labels from place k on, the previous pair known: an error's number -/
def chk : Option Pr → List Pr → Nat
  | _, [] => 0
  | none, p :: r => if keyB p.1 && valueB p.2 then chk (some p) r else 8
  | some q, p :: r => if keyB p.1 && valueB p.2 then (if eqS q.1 p.1 then 7 else if ltS p.1 q.1 then 9 else chk (some p) r) else 8
def check (l : List Pr) : Nat := if 8 < l.length then 5 else chk none l
end Go.Proofs.Ytocdhnlffemnhaa
/- Layer 1: how a slice of pairs lies in memory. No program is named here. -/
namespace Go.Proofs.Ytocdhnlffemnhaa
open Go.RowKit

/-- The slice at A reads as these pairs; it lies below block B. -/
def RdP (w : World) (B : Nat) (A : Option Addr) (l : List Pr) : Prop :=
  0 < l.length → ∃ b o, A = some ⟨b, o, none⟩ ∧ b < B ∧ ∀ (i : Nat) (p : Pr), l[i]? = some p → w.cell? ⟨b, o + i * 2, none⟩ = some (.string p.1) ∧ w.cell? ⟨b, o + i * 2 + 1, none⟩ = some (.string p.2)

/-- No string is longer than can be read. -/
def OkP (l : List Pr) : Prop := ∀ (i : Nat) (p : Pr), l[i]? = some p → p.1.size ≤ maxLen ∧ p.2.size ≤ maxLen

section
variable {w w' : World} {B B' : Nat} {A : Option Addr} {l : List Pr}
theorem RdP.none_ : RdP w B A [] := fun h => absurd h (by simp)
theorem RdP.keep (h : RdP w B A l) (hk : ∀ p : Addr, p.block < B → w'.cell? p = w.cell? p) : RdP w' B A l := fun h0 => by
  obtain ⟨b, o, e, hb, hc⟩ := h h0
  exact ⟨b, o, e, hb, fun i p hp => ⟨(hk ⟨b, _, none⟩ hb).trans (hc i p hp).1, (hk ⟨b, _, none⟩ hb).trans (hc i p hp).2⟩⟩
theorem RdP.more (h : RdP w B A l) (hB : B ≤ B') : RdP w B' A l := fun h0 => by
  obtain ⟨b, o, e, hb, hc⟩ := h h0
  exact ⟨b, o, e, by omega, hc⟩
theorem RdP.below (h : RdP w B A l) (hb : Below B w w') : RdP w' B A l := h.keep fun _ hp => hb.cell hp
theorem RdP.at_ {k : Nat} (h : RdP w B A l) (hk : k < l.length) : ∃ b o p, A = some ⟨b, o, none⟩ ∧ b < B ∧ l[k]? = some p ∧ w.cell? ⟨b, o + k * 2, none⟩ = some (.string p.1) ∧ w.cell? ⟨b, o + k * 2 + 1, none⟩ = some (.string p.2) := by
  obtain ⟨b, o, e, hb, hc⟩ := h (by omega)
  have hg : l[k]? = some (l[k]) := List.getElem?_eq_getElem hk
  exact ⟨b, o, l[k], e, hb, hg, (hc k _ hg).1, (hc k _ hg).2⟩
theorem RdP.two {j : Nat} (h : RdP w B A l) (hk : j + 1 < l.length) : ∃ b o q p, A = some ⟨b, o, none⟩ ∧ b < B ∧ l[j]? = some q ∧ l[j + 1]? = some p ∧
    (∀ w', Below B w w' → w'.cell? ⟨b, o + j * 2, none⟩ = some (.string q.1) ∧ w'.cell? ⟨b, o + j * 2 + 1, none⟩ = some (.string q.2) ∧ w'.cell? ⟨b, o + (j + 1) * 2, none⟩ = some (.string p.1) ∧ w'.cell? ⟨b, o + (j + 1) * 2 + 1, none⟩ = some (.string p.2)) := by
  obtain ⟨b, o, e, hb, hc⟩ := h (by omega)
  have g1 : l[j]? = some (l[j]) := List.getElem?_eq_getElem (by omega)
  have g2 : l[j + 1]? = some (l[j + 1]) := List.getElem?_eq_getElem hk
  refine ⟨b, o, _, _, e, hb, g1, g2, fun w' hw => ⟨?_, ?_, ?_, ?_⟩⟩
  · exact (hw.cell (p := ⟨b, _, none⟩) hb).trans (hc _ _ g1).1
  · exact (hw.cell (p := ⟨b, _, none⟩) hb).trans (hc _ _ g1).2
  · exact (hw.cell (p := ⟨b, _, none⟩) hb).trans (hc _ _ g2).1
  · exact (hw.cell (p := ⟨b, _, none⟩) hb).trans (hc _ _ g2).2
theorem RdP.of_own {base : Nat} {e : TypeId} {n c : Nat} (h : w.ownsRow base e 2 (.slice A n c) n (cellsP l)) : RdP w w.heap.size A l := fun h0 => by
  have hn : n = l.length := by have := h.1; rw [cellsP_length] at this; omega
  obtain ⟨g, cap, hv, _, hlt⟩ := h.form (by omega)
  have hA : A = some ⟨g, 0, none⟩ := by injection hv
  subst hA
  have hcs := h.cells (g := g) rfl
  refine ⟨g, 0, rfl, hlt, fun i p hp => ?_⟩
  obtain ⟨h1, h2⟩ := cellsP_get l i p hp
  have c1 := hcs _ _ h1
  have c2 := hcs _ _ h2
  rw [Addr.add_lit] at c1 c2
  exact ⟨c1, by rw [Nat.add_assoc]; exact c2⟩
end
theorem below_drewN {B : Nat} {a w : World} (h : Below B a w) (n : Nat) : Below B a (w.drewN n) := ⟨h.os, h.tape, h.output, h.size, h.block⟩
/-- behind a call: the block of two cells that was made last still holds them; what lay below is as it was -/
theorem boxed {B : Nat} {w0 w w2 : World} {a b : Value} {t : TypeId} (h0 : Below B w0 w) (hB : B ≤ w.heap.size) (hb : Below (w.alloc (.cells #[a, b] t)).heap.size (w.alloc (.cells #[a, b] t)) w2) :
    w2.cell? ⟨w.heap.size, 0, none⟩ = some a ∧ w2.cell? ⟨w.heap.size, 1, none⟩ = some b ∧ Below B w0 w2 ∧ w.heap.size < w2.heap.size := by
  have hs := hb.size
  simp at hs
  refine ⟨?_, ?_, (h0.alloc hB _).trans (hb.mono (by simp; omega)), by omega⟩
  · rw [hb.cell (p := ⟨w.heap.size, 0, none⟩) (by simp), World.cell?_alloc_at _ _ _ _ rfl]; rfl
  · rw [hb.cell (p := ⟨w.heap.size, 1, none⟩) (by simp), World.cell?_alloc_at _ _ _ _ rfl]; rfl
/-- behind one call more -/
theorem later {B : Nat} {w0 w w2 : World} {g : Nat} {a b : Value} (h1 : w.cell? ⟨g, 0, none⟩ = some a) (h2 : w.cell? ⟨g, 1, none⟩ = some b) (h0 : Below B w0 w) (hg : g < w.heap.size) (hB : B ≤ w.heap.size) (hb : Below w.heap.size w w2) :
    w2.cell? ⟨g, 0, none⟩ = some a ∧ w2.cell? ⟨g, 1, none⟩ = some b ∧ Below B w0 w2 ∧ g < w2.heap.size :=
  ⟨(hb.cell (p := ⟨g, 0, none⟩) hg).trans h1, (hb.cell (p := ⟨g, 1, none⟩) hg).trans h2, h0.trans (hb.mono hB), by have := hb.size; omega⟩
end Go.Proofs.Ytocdhnlffemnhaa
