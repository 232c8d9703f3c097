/- Several texts in one: Words, Plain, Mem, PkPlain, App. -/
import Derived.Test.YtholdcgkhicdmaaGreatDoorChecked
import Derived.WalkKit
import Derived.Lib.Hide
import Derived.Below
import Derived.OneCell
import Derived.Laws.OwnMore
import Derived.Laws.Strings
import Derived.Deep.AppendLies
import Derived.Deep.Draws
import Derived.Lib.Bytealg
import Derived.Sort.Walk0
import Derived.Sort.Statements
import Derived.Maps.AppendAt
import Derived.RegionTactic
import Derived.Deep.RegionLaw
import Derived.OwnWalk
namespace Go.Proofs.YtholdcgkhicdmaaGreatDoor
open Go.RowKit
def lowN (n : Nat) : Bool := decide (97 ≤ n) && decide (n ≤ 122)
def signN (n : Nat) : Bool := lowN n || (decide (48 ≤ n) && decide (n ≤ 57)) || n == 46 || n == 95 || n == 45
theorem ret_bool {a b : Bool} (h : a = b) : Ending.returned (.bool a) = .returned (.bool b) := by rw [h]
theorem lowN_no {n : Nat} (h : ¬ (97 ≤ n ∧ n ≤ 122)) : lowN n = false := by
 cases e : lowN n with
 | false => rfl
 | true => simp [lowN] at e; exact absurd e h
set_option maxHeartbeats 400000 in
theorem letter_any (n : Nat) (w : World) :
  Calls Tryz.prog 141 #[.int .i32 n] w fun e w' => e = .returned (.bool (lowN n)) ∧ w = w' := by
 by_cases h1 : 97 ≤ n
 ·by_cases h2 : n ≤ 122
  all_goals
   go_enter Tryz.func141, Tryz.ntmps141
   go_wp2
   go_ret
   refine ⟨ret_bool ?_, rfl⟩
   simp [lowN, h1, h2]
   try omega
 ·go_enter Tryz.func141, Tryz.ntmps141
  go_wp2
  go_ret
  refine ⟨ret_bool ?_, rfl⟩
  simp [lowN, h1]
set_option maxHeartbeats 400000 in
theorem sign_any (n : Nat) (w : World) :
  Calls Tryz.prog 97 #[.int .i32 n] w fun e w' => e = .returned (.bool (signN n)) ∧ w = w' := by
 by_cases h1 : lowN n = true
 ·go_enter Tryz.func97, Tryz.ntmps97
  go_wp2_with (go_at_call 141; refine (letter_any _ _).mono ?_; rintro e w' ⟨rfl, rfl⟩)
  go_ret
  refine ⟨ret_bool ?_, rfl⟩
  simp [signN, h1]
 ·have h1 : lowN n = false := by simpa using h1
  by_cases h2 : 48 ≤ n
  all_goals
   go_enter Tryz.func97, Tryz.ntmps97
   go_wp2_with (go_at_call 141; refine (letter_any _ _).mono ?_; rintro e w' ⟨rfl, rfl⟩)
   all_goals go_ret
   all_goals refine ⟨ret_bool ?_, rfl⟩
   all_goals rw [Bool.eq_iff_iff]
   all_goals simp [signN, h1]
   all_goals omega
def fitsB (p : Nat → Bool) (m : Nat) (s : ByteArray) : Bool := decide (0 < s.size) && decide (s.size ≤ m) && s.data.toList.all fun c => p c.toNat
theorem all_at (s : ByteArray) (p : Nat → Bool) (i : Nat) (hi : i < s.size) (h : p (s[i]'hi).toNat = false) : (s.data.toList.all fun c => p c.toNat) = false := by
 rw [List.all_eq_false]
 exact ⟨s[i]'hi, by show s.data[i] ∈ s.data.toList; simp, by simp [h]⟩
theorem all_up (s : ByteArray) (p : Nat → Bool) (h : ∀ i, (hi : i < s.size) → p (s[i]'hi).toNat = true) : (s.data.toList.all fun c => p c.toNat) = true := by
 rw [List.all_eq_true]
 intro c hc
 obtain ⟨i, hi, rfl⟩ := List.mem_iff_getElem.1 hc
 exact h i (by simpa using hi)
def UpTo (p : Nat → Bool) (s : ByteArray) (i : Nat) : Prop := ∀ j, j < i → (hj : j < s.size) → p (s[j]'hj).toNat = true
set_option maxRecDepth 100000 in
set_option maxHeartbeats 400000 in
theorem fits_any (g : FuncId) (p : Nat → Bool) (eg : ∀ args w, (callFunc g args).run Tryz.prog w = .ok (.enter g args) w) (hg : ∀ (n : Nat) (w : World), Calls Tryz.prog g #[.int .i32 n] w fun e w' => e = .returned (.bool (p n)) ∧ w = w') (hp : ∀ n, 128 ≤ n → p n = false)
  (s : ByteArray) (m : Nat) (w : World) :
  Calls Tryz.prog 96 #[.string s, .int .i64 m, .func (.func g) #[] #[]] w fun e w' => e = .returned (.bool (fitsB p m s)) ∧ Below w.heap.size w w' := by
 have Hg := Lib.hid hg
 have Hp := Lib.hid hp
 clear hg hp
 by_cases h0 : s.size = 0
 ·have hb : ((s.size : Int) == 0) = true := beq_iff_eq.2 (by omega)
  go_enter Tryz.func96, Tryz.ntmps96
  go_wp2
  go_ret
  exact ⟨ret_bool (by simp [fitsB]; omega), Below.refl _ _⟩
 ·have hs : 0 < s.size := by omega
  have hb : ((s.size : Int) == 0) = false := beq_eq_false_iff_ne.2 (by omega)
  by_cases h1 : s.size ≤ m
  ·have hb2 : decide (m < s.size) = false := by simp; omega
   go_enter Tryz.func96, Tryz.ntmps96
   go_wp2
   go_loopw [] (fun wr => ∃ pos : Nat, wr = w.iter s pos ∧ pos ≤ s.size ∧ UpTo p s pos) (fun wr => s.size - wr.iterPos w.heap.size)
   case atStart => exact ⟨0, rfl, by omega, fun j hj => by omega⟩
   case round =>
    obtain ⟨pos, rfl, hpos, hup⟩ := hrel
    by_cases hlt : pos < s.size
    ·have hnx : ∀ ty, (Instr.next (.pointer (some ⟨w.heap.size, 0, none⟩)) true ty).run Tryz.prog (w.iter s pos) = _ := fun ty => run_next_any w s pos ty hlt
     have Hup := Lib.hid hup
     clear hup
     by_cases ha : (s[pos]'hlt).toNat < 128
     ·rw [decode_ascii s pos hlt ha] at hnx
      obtain ⟨n, hn⟩ : ∃ n, (s[pos]'hlt).toNat = n := ⟨_, rfl⟩
      rw [hn] at hnx ha
      have Hn := Lib.hid hn
      have Ha := Lib.hid ha
      clear hn ha
      by_cases hpn : p n = true
      ·go_wp2_with fail
       refine (Hg.out _ _).mono ?_
       rintro e w' ⟨rfl, rfl⟩
       go_wp2
       refine ⟨⟨pos + 1, rfl, by omega, fun j hj hjs => ?_⟩, by simp; omega⟩
       by_cases hjp : j = pos
       ·subst hjp
        rw [Hn.out]
        exact hpn
       ·exact Hup.out j (by omega) hjs
      ·have hpn : p n = false := by simpa using hpn
       go_wp2_with fail
       refine (Hg.out _ _).mono ?_
       rintro e w' ⟨rfl, rfl⟩
       go_wp2
       go_ret
       exact ⟨ret_bool (by rw [fitsB, all_at s p pos hlt (by rw [Hn.out]; exact hpn)]; simp), (Below.refl _ _).alloc (Nat.le_refl _) _⟩
     ·have hhi := (decode_high s pos hlt (by omega)).1
      obtain ⟨n, hn⟩ : ∃ n, (Utf8.decode s pos).1 = n := ⟨_, rfl⟩
      obtain ⟨st, hst⟩ : ∃ n, (Utf8.decode s pos).2 = n := ⟨_, rfl⟩
      rw [hn, hst] at hnx
      have hpn : p n = false := Hp.out n (by omega)
      have hpb : p (s[pos]'hlt).toNat = false := Hp.out _ (by omega)
      have Hb := Lib.hid hpb
      clear hn hst hhi ha hpb
      go_wp2_with fail
      refine (Hg.out _ _).mono ?_
      rintro e w' ⟨rfl, rfl⟩
      go_wp2
      go_ret
      exact ⟨ret_bool (by rw [fitsB, all_at s p pos hlt Hb.out]; simp), (Below.refl _ _).alloc (Nat.le_refl _) _⟩
    ·have hnx : ∀ ty, (Instr.next (.pointer (some ⟨w.heap.size, 0, none⟩)) true ty).run Tryz.prog (w.iter s pos) = _ := fun ty => run_next_end w s pos ty hlt
     have hfin : fitsB p m s = true := by
      rw [fitsB, all_up s p (fun i hi => hup i (by omega) hi)]
      simp; omega
     have Hfin := Lib.hid hfin
     clear hup hfin
     go_wp2
     go_ret
     exact ⟨ret_bool Hfin.out.symm, (Below.refl _ _).alloc (Nat.le_refl _) _⟩
  ·have hb2 : decide (m < s.size) = true := by simp; omega
   go_enter Tryz.func96, Tryz.ntmps96
   go_wp2
   go_ret
   exact ⟨ret_bool (by simp [fitsB]; omega), Below.refl _ _⟩
theorem low_hi (n : Nat) (h : 128 ≤ n) : lowN n = false := lowN_no (by omega)
theorem sign_hi (n : Nat) (h : 128 ≤ n) : signN n = false := by
 rw [signN, low_hi n h]
 simp; omega
theorem eLetter (args : Array Value) (w : World) : (callFunc 141 args).run Tryz.prog w = .ok (.enter 141 args) w := by
 kernel_rfl
theorem eSign (args : Array Value) (w : World) : (callFunc 97 args).run Tryz.prog w = .ok (.enter 97 args) w := by
 kernel_rfl
def keyB (s : ByteArray) : Bool := fitsB lowN 8 s
def valueB (s : ByteArray) : Bool := fitsB signN 16 s
def firstLow (s : ByteArray) : Bool := lowN (s.data.toList.headD 0).toNat
def nameB (s : ByteArray) : Bool := fitsB signN 12 s && firstLow s
theorem fitsB_pos {p : Nat → Bool} {m : Nat} {s : ByteArray} (h : fitsB p m s = true) : 0 < s.size := by
 simp [fitsB] at h; exact h.1.1
theorem headD_at (l : List UInt8) (h : 0 < l.length) : l.headD 0 = l[0]'h := by
 cases l with
 | nil => exact absurd h (by simp)
 | cons a l => rfl
theorem firstLow_eq (s : ByteArray) (h : 0 < s.size) : firstLow s = lowN (s[0]'h).toNat := by
 have e : s.data.toList.headD 0 = s[0]'h := by
  show s.data.toList.headD 0 = s.data[0]'h
  have e1 : s.data[0]'h = s.data.toList[0]'(by simpa using h) := (Array.getElem_toList h).symm
  rw [e1]
  have hl : 0 < s.data.toList.length := by simpa using h
  exact (headD_at _ hl)
 rw [firstLow, e]
set_option maxHeartbeats 400000 in
theorem key_any (s : ByteArray) (w : World) :
  Calls Tryz.prog 202 #[.string s] w fun e w' => e = .returned (.bool (keyB s)) ∧ Below w.heap.size w w' := by
 go_enter Tryz.func202, Tryz.ntmps202
 go_wp2_with fail
 refine (fits_any 141 lowN eLetter letter_any low_hi s 8 _).mono ?_
 rintro e w1 ⟨rfl, hb⟩
 go_wp2
 go_ret
 exact ⟨rfl, hb⟩
set_option maxHeartbeats 400000 in
theorem value_any (s : ByteArray) (w : World) :
  Calls Tryz.prog 55 #[.string s] w fun e w' => e = .returned (.bool (valueB s)) ∧ Below w.heap.size w w' := by
 go_enter Tryz.func55, Tryz.ntmps55
 go_wp2_with fail
 refine (fits_any 97 signN eSign sign_any sign_hi s 16 _).mono ?_
 rintro e w1 ⟨rfl, hb⟩
 go_wp2
 go_ret
 exact ⟨rfl, hb⟩
set_option maxHeartbeats 400000 in
theorem name_any (s : ByteArray) (w : World) :
  Calls Tryz.prog 180 #[.string s] w fun e w' => e = .returned (.bool (nameB s)) ∧ Below w.heap.size w w' := by
 by_cases h : fitsB signN 12 s = true
 ·have hpos := fitsB_pos h
  have hf := firstLow_eq s hpos
  have hn : (s[0]'hpos).toNat ≤ 255 := by have := (s[0]'hpos).toNat_lt; omega
  have Hf := Lib.hid hf
  have H := Lib.hid h
  clear hf h
  go_enter Tryz.func180, Tryz.ntmps180
  go_wp2_with fail
  refine (fits_any 97 signN eSign sign_any sign_hi s 12 _).mono ?_
  rintro e w1 ⟨rfl, hb⟩
  rw [H.out]
  go_wp2_with fail
  refine (letter_any _ _).mono ?_
  rintro e w' ⟨rfl, rfl⟩
  go_wp2
  go_ret
  exact ⟨ret_bool (by rw [nameB, H.out, Hf.out]; rfl), hb⟩
 ·have h : fitsB signN 12 s = false := by simpa using h
  have H := Lib.hid h
  clear h
  go_enter Tryz.func180, Tryz.ntmps180
  go_wp2_with fail
  refine (fits_any 97 signN eSign sign_any sign_hi s 12 _).mono ?_
  rintro e w1 ⟨rfl, hb⟩
  rw [H.out]
  go_wp2
  go_ret
  exact ⟨ret_bool (by rw [nameB, H.out]; rfl), hb⟩
abbrev Pr := ByteArray × ByteArray
def encP (p : Pr) : List Value := [.string p.1, .string p.2]
def cellsP (l : List Pr) : List Value := l.flatMap encP
theorem cellsP_length (l : List Pr) : (cellsP l).length = l.length * 2 := by
 induction l with
 | nil => rfl
 | cons p l ih => simp only [cellsP, List.flatMap_cons, List.length_append] at *; rw [ih]; simp [encP]; omega
theorem cellsP_append (a b : List Pr) : cellsP (a ++ b) = cellsP a ++ cellsP b := by simp [cellsP]
theorem cellsP_get (l : List Pr) (i : Nat) (p : Pr) (h : l[i]? = some p) : (cellsP l)[i * 2]? = some (.string p.1) ∧ (cellsP l)[i * 2 + 1]? = some (.string p.2) := by
 induction l generalizing i with
 | nil => simp at h
 | cons q l ih =>
   cases i with
   | zero =>
     simp at h; subst h
     simp [cellsP, encP]
   | succ i =>
     simp at h
     obtain ⟨h1, h2⟩ := ih i h
     have e : cellsP (q :: l) = .string q.1 :: .string q.2 :: cellsP l := rfl
     rw [e, show (i + 1) * 2 = i * 2 + 2 from by omega]
     exact ⟨by simpa using h1, by simpa using h2⟩
theorem cellsP_one (l : List Pr) : ∀ u ∈ cellsP l, u.oneCell' = true := by
 intro u hu
 simp only [cellsP, List.mem_flatMap] at hu
 obtain ⟨p, _, hp⟩ := hu
 simp [encP] at hp
 rcases hp with rfl | rfl <;> rfl
def eqS (a b : ByteArray) : Bool := a.toList == b.toList
def ltS (a b : ByteArray) : Bool := Op.bytesLess a.toList b.toList
theorem eqS_iff (a b : ByteArray) : eqS a b = true ↔ a = b := by
 unfold eqS
 rw [ByteArray.toList_eq, ByteArray.toList_eq, beq_iff_eq]
 constructor
 ·intro h
  cases a; cases b
  simp at h
  simpa using h
 ·intro h; rw [h]
theorem eqS_refl (a : ByteArray) : eqS a a = true := (eqS_iff a a).2 rfl
theorem ltS_eq (a b : ByteArray) : ltS a b = decide (a.data.toList < b.data.toList) := by
 unfold ltS
 rw [bytesLess_eq, ByteArray.toList_eq, ByteArray.toList_eq]
theorem ltS_irrefl (a : ByteArray) : ltS a a = false := by rw [ltS_eq]; simp [List.lt_irrefl]
theorem ltS_trans {a b c : ByteArray} (h1 : ltS a b = true) (h2 : ltS b c = true) : ltS a c = true := by
 rw [ltS_eq] at *
 simp only [decide_eq_true_eq] at *
 exact List.lt_trans h1 h2
theorem ltS_total {a b : ByteArray} (h1 : ltS a b = false) (h2 : ltS b a = false) : a = b := by
 rw [ltS_eq] at *
 simp only [decide_eq_false_iff_not] at *
 have h : a.data.toList = b.data.toList := List.le_antisymm (List.not_lt.1 h2) (List.not_lt.1 h1)
 cases a; cases b
 simp at h
 simpa using h
def chk : Option Pr → List Pr → Nat
 | _, [] => 0
 | none, p :: r => if keyB p.1 && valueB p.2 then chk (some p) r else 8
 | some q, p :: r => if keyB p.1 && valueB p.2 then (if eqS q.1 p.1 then 7 else if ltS p.1 q.1 then 9 else chk (some p) r) else 8
def check (l : List Pr) : Nat := if 8 < l.length then 5 else chk none l
def RdP (w : World) (B : Nat) (A : Option Addr) (l : List Pr) : Prop :=
 0 < l.length → ∃ b o, A = some ⟨b, o, none⟩ ∧ b < B ∧ ∀ (i : Nat) (p : Pr), l[i]? = some p → w.cell? ⟨b, o + i * 2, none⟩ = some (.string p.1) ∧ w.cell? ⟨b, o + i * 2 + 1, none⟩ = some (.string p.2)
def OkP (l : List Pr) : Prop := ∀ (i : Nat) (p : Pr), l[i]? = some p → p.1.size ≤ maxLen ∧ p.2.size ≤ maxLen
section
variable {w w' : World} {B B' : Nat} {A : Option Addr} {l : List Pr}
theorem RdP.keep (h : RdP w B A l) (hk : ∀ p : Addr, p.block < B → w'.cell? p = w.cell? p) : RdP w' B A l := fun h0 => by
 obtain ⟨b, o, e, hb, hc⟩ := h h0
 exact ⟨b, o, e, hb, fun i p hp => ⟨(hk ⟨b, _, none⟩ hb).trans (hc i p hp).1, (hk ⟨b, _, none⟩ hb).trans (hc i p hp).2⟩⟩
theorem RdP.more (h : RdP w B A l) (hB : B ≤ B') : RdP w B' A l := fun h0 => by
 obtain ⟨b, o, e, hb, hc⟩ := h h0
 exact ⟨b, o, e, by omega, hc⟩
theorem RdP.below (h : RdP w B A l) (hb : Below B w w') : RdP w' B A l := h.keep fun _ hp => hb.cell hp
theorem RdP.at_ {k : Nat} (h : RdP w B A l) (hk : k < l.length) : ∃ b o p, A = some ⟨b, o, none⟩ ∧ b < B ∧ l[k]? = some p ∧ w.cell? ⟨b, o + k * 2, none⟩ = some (.string p.1) ∧ w.cell? ⟨b, o + k * 2 + 1, none⟩ = some (.string p.2) := by
 obtain ⟨b, o, e, hb, hc⟩ := h (by omega)
 have hg : l[k]? = some (l[k]) := List.getElem?_eq_getElem hk
 exact ⟨b, o, l[k], e, hb, hg, (hc k _ hg).1, (hc k _ hg).2⟩
theorem RdP.two {j : Nat} (h : RdP w B A l) (hk : j + 1 < l.length) : ∃ b o q p, A = some ⟨b, o, none⟩ ∧ b < B ∧ l[j]? = some q ∧ l[j + 1]? = some p ∧
  (∀ w', Below B w w' → w'.cell? ⟨b, o + j * 2, none⟩ = some (.string q.1) ∧ w'.cell? ⟨b, o + j * 2 + 1, none⟩ = some (.string q.2) ∧ w'.cell? ⟨b, o + (j + 1) * 2, none⟩ = some (.string p.1) ∧ w'.cell? ⟨b, o + (j + 1) * 2 + 1, none⟩ = some (.string p.2)) := by
 obtain ⟨b, o, e, hb, hc⟩ := h (by omega)
 have g1 : l[j]? = some (l[j]) := List.getElem?_eq_getElem (by omega)
 have g2 : l[j + 1]? = some (l[j + 1]) := List.getElem?_eq_getElem hk
 refine ⟨b, o, _, _, e, hb, g1, g2, fun w' hw => ⟨?_, ?_, ?_, ?_⟩⟩
 ·exact (hw.cell (p := ⟨b, _, none⟩) hb).trans (hc _ _ g1).1
 ·exact (hw.cell (p := ⟨b, _, none⟩) hb).trans (hc _ _ g1).2
 ·exact (hw.cell (p := ⟨b, _, none⟩) hb).trans (hc _ _ g2).1
 ·exact (hw.cell (p := ⟨b, _, none⟩) hb).trans (hc _ _ g2).2
theorem RdP.of_own {base : Nat} {e : TypeId} {n c : Nat} (h : w.ownsRow base e 2 (.slice A n c) n (cellsP l)) : RdP w w.heap.size A l := fun h0 => by
 have hn : n = l.length := by have := h.1; rw [cellsP_length] at this; omega
 obtain ⟨g, cap, hv, _, hlt⟩ := h.form (by omega)
 have hA : A = some ⟨g, 0, none⟩ := by injection hv
 subst hA
 have hcs := h.cells (g := g) rfl
 refine ⟨g, 0, rfl, hlt, fun i p hp => ?_⟩
 obtain ⟨h1, h2⟩ := cellsP_get l i p hp
 have c1 := hcs _ _ h1
 have c2 := hcs _ _ h2
 rw [Addr.add_lit] at c1 c2
 exact ⟨c1, by rw [Nat.add_assoc]; exact c2⟩
end
theorem below_drewN {B : Nat} {a w : World} (h : Below B a w) (n : Nat) : Below B a (w.drewN n) := ⟨h.os, h.tape, h.output, h.size, h.block⟩
theorem boxed {B : Nat} {w0 w w2 : World} {a b : Value} {t : TypeId} (h0 : Below B w0 w) (hB : B ≤ w.heap.size) (hb : Below (w.alloc (.cells #[a, b] t)).heap.size (w.alloc (.cells #[a, b] t)) w2) :
  w2.cell? ⟨w.heap.size, 0, none⟩ = some a ∧ w2.cell? ⟨w.heap.size, 1, none⟩ = some b ∧ Below B w0 w2 ∧ w.heap.size < w2.heap.size := by
 have hs := hb.size
 simp at hs
 refine ⟨?_, ?_, (h0.alloc hB _).trans (hb.mono (by simp; omega)), by omega⟩
 ·rw [hb.cell (p := ⟨w.heap.size, 0, none⟩) (by simp), World.cell?_alloc_at _ _ _ _ rfl]; rfl
 ·rw [hb.cell (p := ⟨w.heap.size, 1, none⟩) (by simp), World.cell?_alloc_at _ _ _ _ rfl]; rfl
theorem later {B : Nat} {w0 w w2 : World} {g : Nat} {a b : Value} (h1 : w.cell? ⟨g, 0, none⟩ = some a) (h2 : w.cell? ⟨g, 1, none⟩ = some b) (h0 : Below B w0 w) (hg : g < w.heap.size) (hB : B ≤ w.heap.size) (hb : Below w.heap.size w w2) :
  w2.cell? ⟨g, 0, none⟩ = some a ∧ w2.cell? ⟨g, 1, none⟩ = some b ∧ Below B w0 w2 ∧ g < w2.heap.size :=
 ⟨(hb.cell (p := ⟨g, 0, none⟩) hg).trans h1, (hb.cell (p := ⟨g, 1, none⟩) hg).trans h2, h0.trans (hb.mono hB), by have := hb.size; omega⟩
end Go.Proofs.YtholdcgkhicdmaaGreatDoor
namespace Go.Proofs.YtholdcgkhicdmaaGreatDoor
def leb (n : Nat) : List Nat := if h : n < 128 then [n] else (n % 128 + 128) :: leb (n / 128)
termination_by n
decreasing_by omega
theorem leb_lt {n : Nat} (h : n < 128) : leb n = [n] := by rw [leb, dif_pos h]
theorem leb_ge {n : Nat} (h : ¬ n < 128) : leb n = (n % 128 + 128) :: leb (n / 128) := by rw [leb, dif_neg h]
theorem leb_ok : ∀ (k n : Nat), n < 128 ^ k → ∀ x ∈ leb n, x < 256
 | 0, n, hn, x, hx => by
   rw [leb_lt (by simp at hn; omega)] at hx
   simp at hx hn; omega
 | k + 1, n, hn, x, hx => by
   by_cases h : n < 128
   ·rw [leb_lt h] at hx; simp at hx; omega
   ·rw [leb_ge h] at hx
    rcases List.mem_cons.1 hx with rfl | hx
    ·omega
    ·exact leb_ok k (n / 128) (by rw [Nat.pow_succ] at hn; omega) x hx
theorem leb_pos (n : Nat) : 0 < (leb n).length := by
 by_cases h : n < 128
 ·rw [leb_lt h]; simp
 ·rw [leb_ge h]; simp
theorem leb_len : ∀ (k n : Nat), n < 128 ^ (k + 1) → (leb n).length ≤ k + 1
 | 0, n, hn => by rw [leb_lt (by simpa using hn)]; simp
 | k + 1, n, hn => by
   by_cases h : n < 128
   ·rw [leb_lt h]; simp
   ·rw [leb_ge h, List.length_cons]
    have := leb_len k (n / 128) (by rw [Nat.pow_succ] at hn; omega)
    omega
theorem leb_le10 {n : Nat} (h : n < 18446744073709551616) : (leb n).length ≤ 10 := leb_len 9 n (by omega)
theorem leb_bytes {n : Nat} (h : n < 18446744073709551616) : ∀ x ∈ leb n, x < 256 := leb_ok 10 n (by omega)
def getU (i acc : Nat) : List Nat → Nat × List Nat × Nat
 | [] => (0, [], 3)
 | c :: t => if i = 9 ∧ 1 < c then (0, [], 6) else if 0 < i ∧ c = 0 then (0, [], 2) else if c < 128 then (acc + 128 ^ i * c, t, 0) else getU (i + 1) (acc + 128 ^ i * (c % 128)) t
theorem pow_split (i : Nat) : 128 ^ (i + 1) = 128 ^ i * 128 := Nat.pow_succ 128 i
theorem getU_leb : ∀ (k i acc n : Nat) (rest : List Nat), k + i = 9 → (0 < i → 0 < n) → n < 2 * 128 ^ k → getU i acc (leb n ++ rest) = (acc + 128 ^ i * n, rest, 0)
 | 0, i, acc, n, rest, hk, hp, hn => by
   simp at hn
   rw [leb_lt (by omega)]
   simp only [List.cons_append, List.nil_append, getU]
   rw [if_neg (by omega), if_neg (by omega), if_pos (by omega)]
 | k + 1, i, acc, n, rest, hk, hp, hn => by
   by_cases h : n < 128
   ·rw [leb_lt h]
    simp only [List.cons_append, List.nil_append, getU]
    rw [if_neg (by omega), if_neg (by omega), if_pos h]
   ·rw [leb_ge h]
    simp only [List.cons_append, getU]
    rw [if_neg (by omega), if_neg (by omega), if_neg (by omega), getU_leb k (i + 1) _ (n / 128) rest (by omega) (by omega) (by rw [Nat.pow_succ] at hn; omega)]
    have e : (n % 128 + 128) % 128 = n % 128 := by omega
    rw [e, pow_split, Nat.mul_assoc, Nat.add_assoc, ← Nat.mul_add]
    congr 3
    omega
theorem getU_put {n : Nat} (h : n < 18446744073709551616) (rest : List Nat) : getU 0 0 (leb n ++ rest) = (n, rest, 0) := by
 have := getU_leb 9 0 0 n rest rfl (by omega) (by omega)
 simpa using this
def zig (z : Int) : Nat := if z < 0 then 2 * (-(z + 1)).toNat + 1 else 2 * z.toNat
def zag (n : Nat) : Int := if n % 2 = 1 then -((n / 2 : Nat) : Int) - 1 else ((n / 2 : Nat) : Int)
theorem zag_zig (z : Int) : zag (zig z) = z := by
 unfold zag zig
 by_cases hz : z < 0
 ·rw [if_pos hz, if_pos (by omega)]; omega
 ·rw [if_neg hz, if_neg (by omega)]; omega
theorem zig_lt {z : Int} (h1 : -9223372036854775808 ≤ z) (h2 : z < 9223372036854775808) : zig z < 18446744073709551616 := by
 unfold zig; split <;> omega
theorem getU_room (k acc c : Nat) (hk : k ≤ 9) (hc : c < 256) (h9 : k = 9 → c ≤ 1) (ha : acc < 128 ^ k) : acc + 128 ^ k * (c % 128) < 18446744073709551616 := by
 match k, hk with
 | 0, _ | 1, _ | 2, _ | 3, _ | 4, _ | 5, _ | 6, _ | 7, _ | 8, _ => simp at ha ⊢; omega
 | 9, _ => have := h9 rfl; simp at ha ⊢; omega
theorem getU_next {k acc c : Nat} (ha : acc < 128 ^ k) : acc + 128 ^ k * (c % 128) < 128 ^ (k + 1) := by
 have hm : c % 128 + 1 ≤ 128 := by omega
 have hm2 := Nat.mul_le_mul_left (128 ^ k) hm
 rw [Nat.mul_add, Nat.mul_one] at hm2
 rw [Nat.pow_succ]
 omega
theorem getU_lt : ∀ (l : List Nat) (k acc : Nat), (∀ x ∈ l, x < 256) → k ≤ 9 → acc < 128 ^ k → (getU k acc l).1 < 18446744073709551616
 | [], _, _, _, _, _ => by simp [getU]
 | c :: t, k, acc, hok, hk, ha => by
   rw [getU]
   split
   ·simp
   ·rename_i h1
    split
    ·simp
    ·split
     ·rename_i h2
      have h := getU_room k acc c hk (by omega) (by omega) ha
      rw [Nat.mod_eq_of_lt h2] at h
      exact h
     ·exact getU_lt t (k + 1) _ (fun x hx => hok x (by simp [hx])) (by omega) (getU_next ha)
theorem getU_zero : ∀ (l : List Nat) (k acc : Nat), (getU k acc l).2.2 ≠ 0 → (getU k acc l).1 = 0 ∧ (getU k acc l).2.1 = []
 | [], _, _, _ => by simp [getU]
 | c :: t, k, acc, h => by
   rw [getU] at h ⊢
   split
   ·simp
   ·rename_i h1
    rw [if_neg h1] at h
    split
    ·simp
    ·rename_i h2
     rw [if_neg h2] at h
     split
     ·rename_i h3
      rw [if_pos h3] at h
      exact absurd rfl h
     ·rename_i h3
      rw [if_neg h3] at h
      exact getU_zero t (k + 1) _ h
def getB : List Nat → Bool × List Nat × Nat
 | [] => (false, [], 3)
 | c :: t => if 1 < c then (false, [], 2) else (c == 1, t, 0)
def getT (most : Nat) (l : List Nat) : List Nat × List Nat × Nat :=
 if (getU 0 0 l).2.2 ≠ 0 then ([], [], (getU 0 0 l).2.2) else if most < (getU 0 0 l).1 then ([], [], 4) else if (getU 0 0 l).2.1.length < (getU 0 0 l).1 then ([], [], 3) else ((getU 0 0 l).2.1.take (getU 0 0 l).1, (getU 0 0 l).2.1.drop (getU 0 0 l).1, 0)
def getC (top : Nat) (l : List Nat) : Nat × List Nat × Nat :=
 if (getU 0 0 l).2.2 ≠ 0 then (0, [], (getU 0 0 l).2.2) else if top < (getU 0 0 l).1 then (0, [], 6) else ((getU 0 0 l).1, (getU 0 0 l).2.1, 0)
end Go.Proofs.YtholdcgkhicdmaaGreatDoor
namespace Go.Proofs.YtholdcgkhicdmaaGreatDoor
open Go.RowKit
def Src (w : World) (A : Option Addr) (m size : Nat) (news : List Value) : Prop :=
 news.length = m * size ∧ (0 < m → ∃ ad, A = some ad ∧ ∀ j u, news[j]? = some u → w.cell? (ad.add j) = some u)
section
variable {P : Program} {w : World}
theorem run_append_src {base : Nat} {t ty e : TypeId} {i : TypeInfo} {z : Value} {size bytes : Nat} (ht : P.underlying t = some (.slice e)) (hi : P.info? e = some i) (hz : i.zero = some z)
  (hsize : i.size = size) (hby : i.bytes = bytes) (hzs : z.cells.size = size) (hsz : 0 < size)
  {v : Value} {n : Nat} {xs : List Value} (hown : w.ownsRow base e size v n xs) {A : Option Addr} {m c : Nat} {news : List Value} (hs : Src w A m size news) (h1 : ∀ u ∈ news, u.oneCell' = true)
  (h63 : n + m ≤ maxLen) (hbytes : (n + m) * bytes ≤ 140737488355328) (hbase : base ≤ w.heap.size) :
  ∃ v' w', (Builtin.append_ #[t, t] ty #[v, .slice A m c]).run P w = .ok v' w' ∧ w'.ownsRow base e size v' (n + m) (xs ++ news) ∧ w.grownBy w' v.ownBlock ∧ (v'.ownBlock = v.ownBlock ∨ v'.ownBlock = some w.heap.size) := by
 cases A with
 | none =>
   have hm : m = 0 := by
    rcases Nat.eq_zero_or_pos m with h | h
    ·exact h
    ·obtain ⟨ad, h', _⟩ := hs.2 h; cases h'
   subst hm
   have hn : news = [] := List.eq_nil_of_length_eq_zero (by simpa using hs.1)
   subst hn
   refine ⟨v, w, ?_, by simpa using hown, World.grownBy.refl w _, .inl rfl⟩
   rcases hown.2 with ⟨rfl, rfl⟩ | ⟨g, cap, cur, rfl, _, _, hnc, _⟩
   ·simp [Builtin.append_, run_underlying ht, sizeOf, typeInfo, hi, Builtin.lenOf, Builtin.firstCells]
   ·simp [Builtin.append_, run_underlying ht, sizeOf, typeInfo, hi, Builtin.lenOf, Builtin.firstCells, hnc, storeCells]
 | some ad =>
   have hc : ∀ j u, news[j]? = some u → w.cell? (ad.add j) = some u := fun j u hj => by
    rcases Nat.eq_zero_or_pos m with h | h
    ·subst h
     have hn : news = [] := List.eq_nil_of_length_eq_zero (by simpa using hs.1)
     subst hn
     simp at hj
    ·obtain ⟨ad', e', hc⟩ := hs.2 h
     cases e'
     exact hc j u hj
   obtain ⟨v', w', hrun, h2, h3, _, h5⟩ := run_append_own_at (P := P) w base t ty e i z size bytes ht hi hz hsize hby hzs hsz v n xs hown ad m c news hs.1 hc h1 h63 hbytes hbase
   exact ⟨v', w', hrun, h2, h3, h5⟩
theorem wp_append_src {o : Oper} {a : Act} {K : Act → World → Prop} {Q : Exit → Act → World → Prop} (s x : Operand) {t : TypeId}
  (ho : o.op = .call { callee := .builtin .append, args := #[s, x], argTypes := #[t, t] })
  {base : Nat} {e : TypeId} {i : TypeInfo} {z : Value} {size bytes : Nat} (ht : P.underlying t = some (.slice e)) (hi : P.info? e = some i) (hz : i.zero = some z)
  (hsize : i.size = size) (hby : i.bytes = bytes) (hzs : z.cells.size = size) (hsz : 0 < size)
  {v : Value} {n : Nat} {xs : List Value} (hv : a.eval s = v) (hown : w.ownsRow base e size v n xs) {A : Option Addr} {m c : Nat} {news : List Value} (hx : a.eval x = .slice A m c) (hs : Src w A m size news) (h1 : ∀ u ∈ news, u.oneCell' = true)
  (h63 : n + m ≤ maxLen) (hbytes : (n + m) * bytes ≤ 140737488355328) (hbase : base ≤ w.heap.size)
  (h : ∀ v' w', w'.ownsRow base e size v' (n + m) (xs ++ news) → w.grownBy w' v.ownBlock → (v'.ownBlock = v.ownBlock ∨ v'.ownBlock = some w.heap.size) → K (a.put o.dst v') w') : o.wp P a w K Q := by
 obtain ⟨v', w', hrun, h2, h3, h4⟩ := run_append_src (P := P) (ty := o.type) (c := c) ht hi hz hsize hby hzs hsz hown hs h1 h63 hbytes hbase
 unfold Oper.wp execOp
 simp only [ho, resolve, invoke, builtin, Sem.run_bind, Sem.run_pure, Result.andThen_ok, List.map_toArray, List.map_cons, List.map_nil, hv, hx, hrun]
 exact h v' w' h2 h3 h4
theorem wpList_append_src {ops : Array Oper} {rest : List Oper} {o : Oper} {a : Act} {Q : Exit → Act → World → Prop} (hgd : o.guard = none) (s x : Operand) {t : TypeId}
  (ho : o.op = .call { callee := .builtin .append, args := #[s, x], argTypes := #[t, t] })
  {base : Nat} {e : TypeId} {i : TypeInfo} {z : Value} {size bytes : Nat} (ht : P.underlying t = some (.slice e)) (hi : P.info? e = some i) (hz : i.zero = some z)
  (hsize : i.size = size) (hby : i.bytes = bytes) (hzs : z.cells.size = size) (hsz : 0 < size)
  {v : Value} {n : Nat} {xs : List Value} (hv : a.eval s = v) (hown : w.ownsRow base e size v n xs) {A : Option Addr} {m c : Nat} {news : List Value} (hx : a.eval x = .slice A m c) (hs : Src w A m size news) (h1 : ∀ u ∈ news, u.oneCell' = true)
  (h63 : n + m ≤ maxLen) (hbytes : (n + m) * bytes ≤ 140737488355328) (hbase : base ≤ w.heap.size)
  (h : ∀ v' w', w'.ownsRow base e size v' (n + m) (xs ++ news) → w.grownBy w' v.ownBlock → (v'.ownBlock = v.ownBlock ∨ v'.ownBlock = some w.heap.size) → wpList P ops Q rest (a.put o.dst v') w') : wpList P ops Q (o :: rest) a w :=
 wpList_plain hgd fun _ hK => wp_append_src s x ho ht hi hz hsize hby hzs hsz hv hown hx hs h1 h63 hbytes hbase fun v' w' h2 h3 h4 => hK _ _ (h v' w' h2 h3 h4)
theorem step_append_src {ops : Array Oper} {o : Oper} {a : Act} {K : Act → World → Prop} {Q : Exit → Act → World → Prop} {E : Prop} (hgd : o.guard = none) (s x : Operand) {t : TypeId}
  (ho : o.op = .call { callee := .builtin .append, args := #[s, x], argTypes := #[t, t] })
  {base : Nat} {e : TypeId} {i : TypeInfo} {z : Value} {size bytes : Nat} (ht : P.underlying t = some (.slice e)) (hi : P.info? e = some i) (hz : i.zero = some z)
  (hsize : i.size = size) (hby : i.bytes = bytes) (hzs : z.cells.size = size) (hsz : 0 < size)
  {v : Value} {n : Nat} {xs : List Value} (hv : a.eval s = v) (hown : w.ownsRow base e size v n xs) {A : Option Addr} {m c : Nat} {news : List Value} (hx : a.eval x = .slice A m c) (hs : Src w A m size news) (h1 : ∀ u ∈ news, u.oneCell' = true)
  (h63 : n + m ≤ maxLen) (hbytes : (n + m) * bytes ≤ 140737488355328) (hbase : base ≤ w.heap.size)
  (h : ∀ v' w', w'.ownsRow base e size v' (n + m) (xs ++ news) → w.grownBy w' v.ownBlock → (v'.ownBlock = v.ownBlock ∨ v'.ownBlock = some w.heap.size) → K (a.put o.dst v') w') :
  if Region.wanted o (yielded ops a.tmps) = true then Oper.wp P o a w K Q else E := by
 have hw : Region.wanted o (yielded ops a.tmps) = true := by simp [Region.wanted, hgd]
 rw [if_pos hw]
 exact wp_append_src s x ho ht hi hz hsize hby hzs hsz hv hown hx hs h1 h63 hbytes hbase h
end
end Go.Proofs.YtholdcgkhicdmaaGreatDoor