/- Layer 1, single characters and words: contracts of lab.letter, lab.sign, lab.fits, lab.Key, lab.Value, lab.Name and of the document's own Key, Value, Name. -/
import Derived.Test.YtileaoanekphaaaChecked
import Derived.WalkKit
import Derived.Lib.Hide
namespace Go.Proofs.Ytileaoanekphaaa
open Go.RowKit

/-- a small letter, as a number -/
def lowN (n : Nat) : Bool := decide (97 ≤ n) && decide (n ≤ 122)
/-- a sign of a value, as a number -/
def signN (n : Nat) : Bool := lowN n || (decide (48 ≤ n) && decide (n ≤ 57)) || n == 46 || n == 95 || n == 45

def lowB (c : UInt8) : Bool := lowN c.toNat
def signB (c : UInt8) : Bool := signN c.toNat

theorem ret_bool {a b : Bool} (h : a = b) : Ending.returned (.bool a) = .returned (.bool b) := by rw [h]

theorem lowN_yes {n : Nat} (h1 : 97 ≤ n) (h2 : n ≤ 122) : lowN n = true := by simp [lowN, h1, h2]
theorem lowN_no {n : Nat} (h : ¬ (97 ≤ n ∧ n ≤ 122)) : lowN n = false := by
  cases e : lowN n with
  | false => rfl
  | true => simp [lowN] at e; exact absurd e h

set_option maxHeartbeats 400000 in
theorem letter_any (n : Nat) (w : World) :
    Calls Try.prog 43 #[.int .i32 n] w fun e w' => e = .returned (.bool (lowN n)) ∧ w = w' := by
  by_cases h1 : 97 ≤ n
  · by_cases h2 : n ≤ 122
    all_goals
      go_enter Try.func43, Try.ntmps43
      go_wp2
      go_ret
      refine ⟨ret_bool ?_, rfl⟩
      simp [lowN, h1, h2]
      try omega
  · go_enter Try.func43, Try.ntmps43
    go_wp2
    go_ret
    refine ⟨ret_bool ?_, rfl⟩
    simp [lowN, h1]

set_option maxHeartbeats 400000 in
theorem small_any (n : Nat) (w : World) :
    Calls Try.prog 36 #[.int .u8 n] w fun e w' => e = .returned (.bool (lowN n)) ∧ w = w' := by
  by_cases h1 : 97 ≤ n
  · by_cases h2 : n ≤ 122
    all_goals
      go_enter Try.func36, Try.ntmps36
      go_wp2
      go_ret
      refine ⟨ret_bool ?_, rfl⟩
      simp [lowN, h1, h2]
      try omega
  · go_enter Try.func36, Try.ntmps36
    go_wp2
    go_ret
    refine ⟨ret_bool ?_, rfl⟩
    simp [lowN, h1]

set_option maxHeartbeats 400000 in
theorem sign_any (n : Nat) (w : World) :
    Calls Try.prog 42 #[.int .i32 n] w fun e w' => e = .returned (.bool (signN n)) ∧ w = w' := by
  by_cases h1 : lowN n = true
  · go_enter Try.func42, Try.ntmps42
    go_wp2_with (go_at_call 43; refine (letter_any _ _).mono ?_; rintro e w' ⟨rfl, rfl⟩)
    go_ret
    refine ⟨ret_bool ?_, rfl⟩
    simp [signN, h1]
  · have h1 : lowN n = false := by simpa using h1
    by_cases h2 : 48 ≤ n
    all_goals
      go_enter Try.func42, Try.ntmps42
      go_wp2_with (go_at_call 43; refine (letter_any _ _).mono ?_; rintro e w' ⟨rfl, rfl⟩)
      all_goals go_ret
      all_goals refine ⟨ret_bool ?_, rfl⟩
      all_goals rw [Bool.eq_iff_iff]
      all_goals simp [signN, h1]
      all_goals omega

/-- one to most characters, all allowed -/
def fitsB (p : Nat → Bool) (m : Nat) (s : ByteArray) : Bool := decide (0 < s.size) && decide (s.size ≤ m) && s.data.toList.all fun c => p c.toNat

theorem all_at (s : ByteArray) (p : Nat → Bool) (i : Nat) (hi : i < s.size) (h : p (s[i]'hi).toNat = false) : (s.data.toList.all fun c => p c.toNat) = false := by
  rw [List.all_eq_false]
  exact ⟨s[i]'hi, by show s.data[i] ∈ s.data.toList; simp, by simp [h]⟩
theorem all_up (s : ByteArray) (p : Nat → Bool) (h : ∀ i, (hi : i < s.size) → p (s[i]'hi).toNat = true) : (s.data.toList.all fun c => p c.toNat) = true := by
  rw [List.all_eq_true]
  intro c hc
  obtain ⟨i, hi, rfl⟩ := List.mem_iff_getElem.1 hc
  exact h i (by simpa using hi)

/-- the first i characters are allowed -/
def UpTo (p : Nat → Bool) (s : ByteArray) (i : Nat) : Prop := ∀ j, j < i → (hj : j < s.size) → p (s[j]'hj).toNat = true

set_option maxRecDepth 100000 in
set_option maxHeartbeats 400000 in
theorem fits_any (g : FuncId) (p : Nat → Bool) (eg : ∀ args w, (callFunc g args).run Try.prog w = .ok (.enter g args) w) (hg : ∀ (n : Nat) (w : World), Calls Try.prog g #[.int .i32 n] w fun e w' => e = .returned (.bool (p n)) ∧ w = w') (hp : ∀ n, 128 ≤ n → p n = false)
    (s : ByteArray) (m : Nat) (w : World) :
    Calls Try.prog 41 #[.string s, .int .i64 m, .func (.func g) #[] #[]] w fun e w' => e = .returned (.bool (fitsB p m s)) ∧ Below w.heap.size w w' := by
  have Hg := Lib.hid hg
  have Hp := Lib.hid hp
  clear hg hp
  by_cases h0 : s.size = 0
  · have hb : ((s.size : Int) == 0) = true := beq_iff_eq.2 (by omega)
    go_enter Try.func41, Try.ntmps41
    go_wp2
    go_ret
    exact ⟨ret_bool (by simp [fitsB]; omega), Below.refl _ _⟩
  · have hs : 0 < s.size := by omega
    have hb : ((s.size : Int) == 0) = false := beq_eq_false_iff_ne.2 (by omega)
    by_cases h1 : s.size ≤ m
    · have hb2 : decide (m < s.size) = false := by simp; omega
      go_enter Try.func41, Try.ntmps41
      go_wp2
      go_loopw [] (fun wr => ∃ pos : Nat, wr = w.iter s pos ∧ pos ≤ s.size ∧ UpTo p s pos) (fun wr => s.size - wr.iterPos w.heap.size)
      case atStart => exact ⟨0, rfl, by omega, fun j hj => by omega⟩
      case round =>
        obtain ⟨pos, rfl, hpos, hup⟩ := hrel
        by_cases hlt : pos < s.size
        · have hnx : ∀ ty, (Instr.next (.pointer (some ⟨w.heap.size, 0, none⟩)) true ty).run Try.prog (w.iter s pos) = _ := fun ty => run_next_any w s pos ty hlt
          have Hup := Lib.hid hup
          clear hup
          by_cases ha : (s[pos]'hlt).toNat < 128
          · rw [decode_ascii s pos hlt ha] at hnx
            obtain ⟨n, hn⟩ : ∃ n, (s[pos]'hlt).toNat = n := ⟨_, rfl⟩
            rw [hn] at hnx ha
            have Hn := Lib.hid hn
            have Ha := Lib.hid ha
            clear hn ha
            by_cases hpn : p n = true
            · go_wp2_with fail
              refine (Hg.out _ _).mono ?_
              rintro e w' ⟨rfl, rfl⟩
              go_wp2
              refine ⟨⟨pos + 1, rfl, by omega, fun j hj hjs => ?_⟩, by simp; omega⟩
              by_cases hjp : j = pos
              · subst hjp
                rw [Hn.out]
                exact hpn
              · exact Hup.out j (by omega) hjs
            · have hpn : p n = false := by simpa using hpn
              go_wp2_with fail
              refine (Hg.out _ _).mono ?_
              rintro e w' ⟨rfl, rfl⟩
              go_wp2
              go_ret
              exact ⟨ret_bool (by rw [fitsB, all_at s p pos hlt (by rw [Hn.out]; exact hpn)]; simp), (Below.refl _ _).alloc (Nat.le_refl _) _⟩
          · have hhi := (decode_high s pos hlt (by omega)).1
            obtain ⟨n, hn⟩ : ∃ n, (Utf8.decode s pos).1 = n := ⟨_, rfl⟩
            obtain ⟨st, hst⟩ : ∃ n, (Utf8.decode s pos).2 = n := ⟨_, rfl⟩
            rw [hn, hst] at hnx
            have hpn : p n = false := Hp.out n (by omega)
            have hpb : p (s[pos]'hlt).toNat = false := Hp.out _ (by omega)
            have Hb := Lib.hid hpb
            clear hn hst hhi ha hpb
            go_wp2_with fail
            refine (Hg.out _ _).mono ?_
            rintro e w' ⟨rfl, rfl⟩
            go_wp2
            go_ret
            exact ⟨ret_bool (by rw [fitsB, all_at s p pos hlt Hb.out]; simp), (Below.refl _ _).alloc (Nat.le_refl _) _⟩
        · have hnx : ∀ ty, (Instr.next (.pointer (some ⟨w.heap.size, 0, none⟩)) true ty).run Try.prog (w.iter s pos) = _ := fun ty => run_next_end w s pos ty hlt
          have hfin : fitsB p m s = true := by
            rw [fitsB, all_up s p (fun i hi => hup i (by omega) hi)]
            simp; omega
          have Hfin := Lib.hid hfin
          clear hup hfin
          go_wp2
          go_ret
          exact ⟨ret_bool Hfin.out.symm, (Below.refl _ _).alloc (Nat.le_refl _) _⟩
    · have hb2 : decide (m < s.size) = true := by simp; omega
      go_enter Try.func41, Try.ntmps41
      go_wp2
      go_ret
      exact ⟨ret_bool (by simp [fitsB]; omega), Below.refl _ _⟩

theorem low_hi (n : Nat) (h : 128 ≤ n) : lowN n = false := lowN_no (by omega)
theorem sign_hi (n : Nat) (h : 128 ≤ n) : signN n = false := by
  rw [signN, low_hi n h]
  simp; omega

theorem eLetter (args : Array Value) (w : World) : (callFunc 43 args).run Try.prog w = .ok (.enter 43 args) w := by
  kernel_rfl

theorem eSign (args : Array Value) (w : World) : (callFunc 42 args).run Try.prog w = .ok (.enter 42 args) w := by
  kernel_rfl

def keyB (s : ByteArray) : Bool := fitsB lowN 8 s
def valueB (s : ByteArray) : Bool := fitsB signN 16 s
def firstLow (s : ByteArray) : Bool := lowN (s.data.toList.headD 0).toNat
def nameB (s : ByteArray) : Bool := fitsB signN 12 s && firstLow s

theorem fitsB_pos {p : Nat → Bool} {m : Nat} {s : ByteArray} (h : fitsB p m s = true) : 0 < s.size := by
  simp [fitsB] at h; exact h.1.1
theorem headD_at (l : List UInt8) (h : 0 < l.length) : l.headD 0 = l[0]'h := by
  cases l with
  | nil => exact absurd h (by simp)
  | cons a l => rfl
theorem firstLow_eq (s : ByteArray) (h : 0 < s.size) : firstLow s = lowN (s[0]'h).toNat := by
  have e : s.data.toList.headD 0 = s[0]'h := by
    show s.data.toList.headD 0 = s.data[0]'h
    have e1 : s.data[0]'h = s.data.toList[0]'(by simpa using h) := (Array.getElem_toList h).symm
    rw [e1]
    have hl : 0 < s.data.toList.length := by simpa using h
    exact (headD_at _ hl)
  rw [firstLow, e]

set_option maxHeartbeats 400000 in
theorem key_any (s : ByteArray) (w : World) :
    Calls Try.prog 45 #[.string s] w fun e w' => e = .returned (.bool (keyB s)) ∧ Below w.heap.size w w' := by
  go_enter Try.func45, Try.ntmps45
  go_wp2_with fail
  refine (fits_any 43 lowN eLetter letter_any low_hi s 8 _).mono ?_
  rintro e w1 ⟨rfl, hb⟩
  go_wp2
  go_ret
  exact ⟨rfl, hb⟩
set_option maxHeartbeats 400000 in
theorem value_any (s : ByteArray) (w : World) :
    Calls Try.prog 46 #[.string s] w fun e w' => e = .returned (.bool (valueB s)) ∧ Below w.heap.size w w' := by
  go_enter Try.func46, Try.ntmps46
  go_wp2_with fail
  refine (fits_any 42 signN eSign sign_any sign_hi s 16 _).mono ?_
  rintro e w1 ⟨rfl, hb⟩
  go_wp2
  go_ret
  exact ⟨rfl, hb⟩
set_option maxHeartbeats 400000 in
theorem name_any (s : ByteArray) (w : World) :
    Calls Try.prog 38 #[.string s] w fun e w' => e = .returned (.bool (nameB s)) ∧ Below w.heap.size w w' := by
  by_cases h : fitsB signN 12 s = true
  · have hpos := fitsB_pos h
    have hf := firstLow_eq s hpos
    have hn : (s[0]'hpos).toNat ≤ 255 := by have := (s[0]'hpos).toNat_lt; omega
    have Hf := Lib.hid hf
    have H := Lib.hid h
    clear hf h
    go_enter Try.func38, Try.ntmps38
    go_wp2_with fail
    refine (fits_any 42 signN eSign sign_any sign_hi s 12 _).mono ?_
    rintro e w1 ⟨rfl, hb⟩
    rw [H.out]
    go_wp2_with fail
    refine (letter_any _ _).mono ?_
    rintro e w' ⟨rfl, rfl⟩
    go_wp2
    go_ret
    exact ⟨ret_bool (by rw [nameB, H.out, Hf.out]; rfl), hb⟩
  · have h : fitsB signN 12 s = false := by simpa using h
    have H := Lib.hid h
    clear h
    go_enter Try.func38, Try.ntmps38
    go_wp2_with fail
    refine (fits_any 42 signN eSign sign_any sign_hi s 12 _).mono ?_
    rintro e w1 ⟨rfl, hb⟩
    rw [H.out]
    go_wp2
    go_ret
    exact ⟨ret_bool (by rw [nameB, H.out]; rfl), hb⟩

set_option maxHeartbeats 400000 in
theorem rkey_any (s : ByteArray) (hs : s.size ≤ maxLen) (w : World) :
    Calls Try.prog 37 #[.string s] w fun e w' => e = .returned (.bool (keyB s)) ∧ w = w' := by
  unfold maxLen at hs
  go_enter Try.func37, Try.ntmps37
  go_wp2
  go_loop [3] (fun i => ∃ k : Nat, k ≤ s.size ∧ i = .int .i64 k ∧ UpTo lowN s k) (fun i => s.size - (intOf i).toNat)
  case atStart => exact ⟨0, Nat.zero_le _, rfl, fun j hj => by omega⟩
  case round =>
    obtain ⟨k, hk, rfl, hup⟩ := hrel
    have Hup := Lib.hid hup
    clear hup
    by_cases hlt : k < s.size
    · by_cases hpn : lowN (s[k]'hlt).toNat = true
      · have Hpn := Lib.hid hpn
        clear hpn
        go_wp2_with fail
        refine (small_any _ _).mono ?_
        rintro e w' ⟨rfl, rfl⟩
        rw [Hpn.out]
        go_wp2
        go_round
        case rel =>
          refine ⟨k + 1, by omega, by go_num, fun j hj hjs => ?_⟩
          by_cases hjk : j = k
          · subst hjk; exact Hpn.out
          · exact Hup.out j (by omega) hjs
        case measure => simp [intOf]; omega
      · have Hpn := Lib.hid (show lowN (s[k]'hlt).toNat = false by simpa using hpn)
        clear hpn
        go_wp2_with fail
        refine (small_any _ _).mono ?_
        rintro e w' ⟨rfl, rfl⟩
        rw [Hpn.out]
        go_wp2
        go_ret
        exact ⟨ret_bool (by rw [keyB, fitsB, all_at s lowN k hlt Hpn.out]; simp), rfl⟩
    · have hall := all_up s lowN (fun i hi => Hup.out i (by omega) hi)
      have Hall := Lib.hid hall
      clear hall
      go_wp2
      all_goals go_ret
      all_goals refine ⟨ret_bool ?_, rfl⟩
      all_goals rw [keyB, fitsB, Hall.out]
      all_goals rw [Bool.eq_iff_iff]
      all_goals simp
      all_goals omega

theorem B_lt (c : UInt8) : c.toNat ≤ 255 := by have := c.toNat_lt; omega

theorem upTo_succ {p : Nat → Bool} {s : ByteArray} {k : Nat} (h : UpTo p s k) (hk : k < s.size) (hp : p (s[k]'hk).toNat = true) : UpTo p s (k + 1) := by
  intro j hj hjs
  by_cases hjk : j = k
  · subst hjk; exact hp
  · exact h j (by omega) hjs
theorem sign_cases {n : Nat} (h : lowN n = false) (hn : signN n = true) : ((48 : Int) ≤ n ∧ (n : Int) ≤ 57) ∨ (n : Int) = 46 ∨ (n : Int) = 95 ∨ (n : Int) = 45 := by
  rw [signN, h] at hn; simp at hn; omega
theorem sign_not {n : Nat} (h : lowN n = false) (hn : signN n = false) : ((n : Int) < 48 ∨ ((48 : Int) ≤ n ∧ (57 : Int) < n)) ∧ (n : Int) ≠ 46 ∧ (n : Int) ≠ 95 ∧ (n : Int) ≠ 45 := by
  rw [signN, h] at hn; simp at hn; omega
theorem val_no {s : ByteArray} {k : Nat} (hk : k < s.size) (h : signN (s[k]'hk).toNat = false) : false = valueB s := by
  rw [valueB, fitsB, all_at s signN k hk h]; simp

theorem name_value {s : ByteArray} (h : valueB s = true) : fitsB signN 12 s = decide (s.size ≤ 12) := by
  simp [valueB, fitsB] at h
  have ha : (s.data.toList.all fun c => signN c.toNat) = true := by simpa using h.2
  simp only [fitsB, ha]
  rw [Bool.eq_iff_iff]; simp; omega
theorem name_novalue {s : ByteArray} (h : valueB s = false) : fitsB signN 12 s = false := by
  cases e : fitsB signN 12 s with
  | false => rfl
  | true =>
    exfalso
    have : valueB s = true := by
      simp only [fitsB, Bool.and_eq_true, decide_eq_true_eq] at e
      simp only [valueB, fitsB, Bool.and_eq_true, decide_eq_true_eq]
      exact ⟨⟨e.1.1, by omega⟩, e.2⟩
    rw [h] at this; cases this

set_option maxHeartbeats 1000000 in
theorem rvalue_any (s : ByteArray) (hs : s.size ≤ maxLen) (w : World) :
    Calls Try.prog 35 #[.string s] w fun e w' => e = .returned (.bool (valueB s)) ∧ w = w' := by
  unfold maxLen at hs
  go_enter Try.func35, Try.ntmps35
  go_wp2
  go_loop [3] (fun i => ∃ k : Nat, k ≤ s.size ∧ i = .int .i64 k ∧ UpTo signN s k) (fun i => s.size - (intOf i).toNat)
  case atStart => exact ⟨0, Nat.zero_le _, rfl, fun j hj => by omega⟩
  case round =>
    obtain ⟨k, hk, rfl, hup⟩ := hrel
    have Hup := Lib.hid hup
    clear hup
    by_cases hlt : k < s.size
    · by_cases hpn : lowN (s[k]'hlt).toNat = true
      · have Hpn := Lib.hid hpn
        clear hpn
        go_wp2_with fail
        refine (small_any _ _).mono ?_
        rintro e w' ⟨rfl, rfl⟩
        rw [Hpn.out]
        go_wp2
        go_round
        case rel =>
          exact ⟨k + 1, by omega, by go_num, upTo_succ Hup.out hlt (by rw [signN, Hpn.out]; simp)⟩
        case measure => simp [intOf]; omega
      · have hpn : lowN (s[k]'hlt).toNat = false := by simpa using hpn
        have hb := B_lt (s[k]'hlt)
        have Hpn := Lib.hid hpn
        clear hpn
        by_cases hsg : signN (s[k]'hlt).toNat = true
        · have Hsg := Lib.hid hsg
          have hc := sign_cases Hpn.out hsg
          clear hsg
          rcases hc with ⟨d1, d2⟩ | hc | hc | hc
          all_goals
            go_wp2_with fail
            refine (small_any _ _).mono ?_
            rintro e w' ⟨rfl, rfl⟩
            first | rw [Hpn.out] | rw [show lowN 46 = false from rfl] | rw [show lowN 95 = false from rfl] | rw [show lowN 45 = false from rfl]
            go_wp2
            exact ⟨⟨k + 1, by omega, by go_num, upTo_succ Hup.out hlt Hsg.out⟩, by simp [intOf]; omega⟩
        · have hsg : signN (s[k]'hlt).toNat = false := by simpa using hsg
          have Hsg := Lib.hid hsg
          obtain ⟨d1, d2, d3, d4⟩ := sign_not Hpn.out hsg
          clear hsg
          have b2 : (((s[k]'hlt).toNat : Int) != 46) = true := by rw [bne_iff_ne]; omega
          have b3 : (((s[k]'hlt).toNat : Int) != 95) = true := by rw [bne_iff_ne]; omega
          have b4 : (((s[k]'hlt).toNat : Int) != 45) = true := by rw [bne_iff_ne]; omega
          clear d2 d3 d4
          rcases d1 with d1 | ⟨d0, d1⟩
          all_goals
            try have b1 : decide (((s[k]'hlt).toNat : Int) ≤ 57) = false := decide_eq_false (by omega)
            go_wp2_with fail
            refine (small_any _ _).mono ?_
            rintro e w' ⟨rfl, rfl⟩
            rw [Hpn.out]
            go_wp2
            go_ret
            exact ⟨ret_bool (val_no hlt Hsg.out), rfl⟩
    · have hall := all_up s signN (fun i hi => Hup.out i (by omega) hi)
      have Hall := Lib.hid hall
      clear hall
      go_wp2
      all_goals go_ret
      all_goals refine ⟨ret_bool ?_, rfl⟩
      all_goals rw [valueB, fitsB, Hall.out]
      all_goals rw [Bool.eq_iff_iff]
      all_goals simp
      all_goals omega

set_option maxHeartbeats 400000 in
theorem rname_any (s : ByteArray) (hs : s.size ≤ maxLen) (w : World) :
    Calls Try.prog 29 #[.string s] w fun e w' => e = .returned (.bool (nameB s)) ∧ w = w' := by
  by_cases hv : valueB s = true
  · have hpos : 0 < s.size := fitsB_pos hv
    have hf := firstLow_eq s hpos
    have Hf := Lib.hid hf
    have Hv := Lib.hid hv
    clear hf hv
    by_cases h12 : s.size ≤ 12
    · go_enter Try.func29, Try.ntmps29
      go_wp2_with fail
      refine (rvalue_any s hs _).mono ?_
      rintro e w' ⟨rfl, rfl⟩
      rw [Hv.out]
      go_wp2_with fail
      refine (small_any _ _).mono ?_
      rintro e w' ⟨rfl, rfl⟩
      go_wp2
      go_ret
      refine ⟨ret_bool ?_, rfl⟩
      rw [nameB, Hf.out, name_value Hv.out]
      simp [h12]
    · go_enter Try.func29, Try.ntmps29
      go_wp2_with fail
      refine (rvalue_any s hs _).mono ?_
      rintro e w' ⟨rfl, rfl⟩
      rw [Hv.out]
      go_wp2
      go_ret
      refine ⟨ret_bool ?_, rfl⟩
      rw [nameB, name_value Hv.out]
      simp [h12]
  · have hv : valueB s = false := by simpa using hv
    have Hv := Lib.hid hv
    clear hv
    go_enter Try.func29, Try.ntmps29
    go_wp2_with fail
    refine (rvalue_any s hs _).mono ?_
    rintro e w' ⟨rfl, rfl⟩
    rw [Hv.out]
    go_wp2
    go_ret
    refine ⟨ret_bool ?_, rfl⟩
    rw [nameB, name_novalue Hv.out]
    rfl

end Go.Proofs.Ytileaoanekphaaa
