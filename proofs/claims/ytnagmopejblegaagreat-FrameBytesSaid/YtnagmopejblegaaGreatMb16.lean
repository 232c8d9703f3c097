/- Several texts in one: FrPlain. -/
import Derived.Test.YtnagmopejblegaaGreatMb13
import Derived.Test.YtnagmopejblegaaGreatMb14
import Derived.Test.YtnagmopejblegaaGreatMb15
/- Layer 5, plain: frames as data: whether one may be, its bytes, reading it back. No program is named here. -/
namespace Go.Proofs.YtnagmopejblegaaGreat
open Go.RowKit

/-- a frame: its kind, from, to; epoch, number, item; up to which all came, the bits behind it, the life -/
structure Fr where
  k : Nat
  f : Nat
  t : Nat
  e : Nat
  q : Nat
  i : It
  c : Nat
  b : Nat
  l : Nat
structure OkF (x : Fr) : Prop where
  k : x.k < 256
  f : x.f < 256
  t : x.t < 256
  e : x.e < 18446744073709551616
  q : x.q < 18446744073709551616
  i : OkI x.i
  c : x.c < 18446744073709551616
  b : x.b < 18446744073709551616
  l : x.l < 18446744073709551616

def dataN (x : Fr) : Nat := if x.q = 0 ∨ x.e = 0 ∨ x.c ≠ 0 ∨ x.b ≠ 0 ∨ x.l ≠ 0 then 6 else itemN x.i
def ackN (x : Fr) : Nat := if x.e = 0 ∨ x.l = 0 ∨ x.q ≠ 0 ∨ sameI x.i zeroI = false then 6 else 0
def aliveN (x : Fr) : Nat := if x.e ≠ 0 ∨ x.q ≠ 0 ∨ x.c ≠ 0 ∨ x.b ≠ 0 ∨ x.l ≠ 0 ∨ sameI x.i zeroI = false then 6 else 0
def kindN (x : Fr) : Nat := if x.k = 1 then dataN x else if x.k = 2 then ackN x else aliveN x
/-- a frame's first error -/
def frameN (x : Fr) : Nat :=
  if x.k ≠ 1 ∧ x.k ≠ 2 ∧ x.k ≠ 3 then 12
  else if 31 < x.f ∨ 31 < x.t ∨ x.f = x.t then 20
  else if 1099511627776 < x.e ∨ 1099511627776 < x.q ∨ 1099511627776 < x.c ∨ 1099511627776 < x.l then 6
  else kindN x

def tailF (x : Fr) : List Nat := if x.k = 1 then leb x.e ++ (leb x.q ++ itemB x.i) else if x.k = 2 then leb x.e ++ (leb x.c ++ (leb x.b ++ leb x.l)) else []
/-- a frame's bytes, without their sum; with it -/
def bodyF (x : Fr) : List Nat := 183 :: x.k :: x.f :: x.t :: tailF x
def sealB (l : List Nat) : List Nat := l ++ four (sumN l)
def frB (x : Fr) : List Nat := sealB (bodyF x)

def zeroF : Fr := ⟨0, 0, 0, 0, 0, zeroI, 0, 0, 0⟩
def normF (x : Fr) : Fr := { x with i := normI x.i }
def sameF (x y : Fr) : Bool := decide (x.k = y.k ∧ x.f = y.f ∧ x.t = y.t ∧ x.e = y.e ∧ x.q = y.q ∧ x.c = y.c ∧ x.b = y.b ∧ x.l = y.l) && sameI x.i y.i
theorem sameF_iff (x y : Fr) : sameF x y = true ↔ normF x = normF y := by
  unfold sameF normF
  rw [Bool.and_eq_true, decide_eq_true_iff, normI_eq]
  constructor
  · rintro ⟨⟨h1, h2, h3, h4, h5, h6, h7, h8⟩, h9⟩
    rw [h1, h2, h3, h4, h5, h6, h7, h8, h9]
  · intro h
    injection h with h1 h2 h3 h4 h5 h6 h7 h8 h9
    exact ⟨⟨h1, h2, h3, h4, h5, h7, h8, h9⟩, h6⟩
theorem sameF_refl (x : Fr) : sameF x x = true := (sameF_iff x x).2 rfl

/-- behind a wrong first byte -/
def failR (m : Nat) : Rm Unit := fun s => if m = 183 then ((), s) else if s.2 = 0 then ((), ([], 11)) else ((), s)
def dataR (k f t : Nat) : Rm Fr := bnd rU fun e => bnd rU fun q => bnd takeR fun i => ret ⟨k, f, t, e, q, i, 0, 0, 0⟩
def ackR (k f t : Nat) : Rm Fr := bnd rU fun e => bnd rU fun c => bnd rU fun b => bnd rU fun l => ret ⟨k, f, t, e, 0, zeroI, c, b, l⟩
def restR (k f t : Nat) : Rm Fr := if k = 1 then dataR k f t else if k = 2 then ackR k f t else ret ⟨k, f, t, 0, 0, zeroI, 0, 0, 0⟩
def takeF : Rm Fr := bnd rByte fun m => bnd (failR m) fun _ => bnd rByte fun k => bnd rByte fun f => bnd rByte fun t => restR k f t

theorem failR_s (m : Nat) : Sticks (failR m) := fun l e he => by
  unfold failR
  by_cases h : m = 183
  · simp [h]
  · simp [h, he]
theorem takeR_s : Sticks takeR := (rB_s.bnd fun g => itG_s 12 8 8 16 g).bnd fun x => chkR_s x
theorem dataR_s (k f t : Nat) : Sticks (dataR k f t) := rU_s.bnd fun _ => rU_s.bnd fun _ => takeR_s.bnd fun _ => Sticks.ret _
theorem ackR_s (k f t : Nat) : Sticks (ackR k f t) := rU_s.bnd fun _ => rU_s.bnd fun _ => rU_s.bnd fun _ => rU_s.bnd fun _ => Sticks.ret _
theorem restR_s (k f t : Nat) : Sticks (restR k f t) := by
  unfold restR
  split
  · exact dataR_s k f t
  · split
    · exact ackR_s k f t
    · exact Sticks.ret _

theorem bodyF_right (x : Fr) : bodyF x = [183] ++ ([] ++ ([x.k] ++ ([x.f] ++ ([x.t] ++ tailF x)))) := rfl
theorem zeroI_norm : normI zeroI = zeroI := rfl
/-- a right frame's bytes are read back -/
theorem takeF_p {x : Fr} (hx : OkF x) (h : frameN x = 0) : Puts2 takeF (bodyF x) (normF x) := by
  have hk : x.k = 1 ∨ x.k = 2 ∨ x.k = 3 := by
    unfold frameN at h
    by_cases h1 : x.k ≠ 1 ∧ x.k ≠ 2 ∧ x.k ≠ 3
    · rw [if_pos h1] at h; cases h
    · omega
  have hn : kindN x = 0 := by
    unfold frameN at h
    split at h
    · cases h
    · split at h
      · cases h
      · split at h
        · cases h
        · exact h
  rw [bodyF_right]
  refine (rByte_p 183).bnd ?_
  refine Puts2.bnd (a := ()) (fun rest => rfl) ?_
  refine (rByte_p x.k).bnd ?_
  refine (rByte_p x.f).bnd ?_
  refine (rByte_p x.t).bnd ?_
  obtain ⟨k, f, t, e, q, i, c, b, l⟩ := x
  rcases hk with hk | hk | hk
  · simp only at hk
    subst hk
    have hd : ¬ (q = 0 ∨ e = 0 ∨ c ≠ 0 ∨ b ≠ 0 ∨ l ≠ 0) ∧ itemN i = 0 := by
      have hn : (if q = 0 ∨ e = 0 ∨ c ≠ 0 ∨ b ≠ 0 ∨ l ≠ 0 then 6 else itemN i) = 0 := hn
      split at hn
      · cases hn
      · exact ⟨by assumption, hn⟩
    obtain ⟨hd, hi⟩ := hd
    obtain ⟨rfl, rfl, rfl⟩ : c = 0 ∧ b = 0 ∧ l = 0 := by omega
    have k := (rU_p hx.e).bnd (G := fun e => bnd rU fun q => bnd takeR fun i => ret (Fr.mk 1 f t e q i 0 0 0)) ((rU_p hx.q).bnd (G := fun q => bnd takeR fun i => ret (Fr.mk 1 f t e q i 0 0 0)) ((takeR_p hx.i hi).bnd (G := fun i => ret (Fr.mk 1 f t e q i 0 0 0)) (Puts2.ret _)))
    rw [List.append_nil] at k
    exact k
  · simp only at hk
    subst hk
    have hd : ¬ (e = 0 ∨ l = 0 ∨ q ≠ 0 ∨ sameI i zeroI = false) := by
      have hn : (if e = 0 ∨ l = 0 ∨ q ≠ 0 ∨ sameI i zeroI = false then 6 else 0) = 0 := hn
      split at hn
      · cases hn
      · assumption
    have hi : normI i = zeroI := by
      rw [← zeroI_norm]; exact (normI_eq _ _).1 (by
        cases hs : sameI i zeroI with
        | true => rfl
        | false => exact absurd (.inr (.inr (.inr hs))) hd)
    obtain rfl : q = 0 := by omega
    have k := (rU_p hx.e).bnd (G := fun e => bnd rU fun c => bnd rU fun b => bnd rU fun l => ret (Fr.mk 2 f t e 0 zeroI c b l)) ((rU_p hx.c).bnd (G := fun c => bnd rU fun b => bnd rU fun l => ret (Fr.mk 2 f t e 0 zeroI c b l)) ((rU_p hx.b).bnd (G := fun b => bnd rU fun l => ret (Fr.mk 2 f t e 0 zeroI c b l)) ((rU_p hx.l).bnd (G := fun l => ret (Fr.mk 2 f t e 0 zeroI c b l)) (Puts2.ret _))))
    rw [List.append_nil] at k
    unfold normF
    simp only
    rw [hi]
    exact k
  · simp only at hk
    subst hk
    have hd : ¬ (e ≠ 0 ∨ q ≠ 0 ∨ c ≠ 0 ∨ b ≠ 0 ∨ l ≠ 0 ∨ sameI i zeroI = false) := by
      have hn : (if e ≠ 0 ∨ q ≠ 0 ∨ c ≠ 0 ∨ b ≠ 0 ∨ l ≠ 0 ∨ sameI i zeroI = false then 6 else 0) = 0 := hn
      split at hn
      · cases hn
      · assumption
    have hi : normI i = zeroI := by
      rw [← zeroI_norm]; exact (normI_eq _ _).1 (by
        cases hs : sameI i zeroI with
        | true => rfl
        | false => exact absurd (.inr (.inr (.inr (.inr (.inr hs))))) hd)
    obtain ⟨rfl, rfl, rfl, rfl, rfl⟩ : e = 0 ∧ q = 0 ∧ c = 0 ∧ b = 0 ∧ l = 0 := by omega
    unfold normF
    simp only
    rw [hi]
    exact Puts2.ret _

/-- two right frames of the same bytes are the same -/
theorem bodyF_norm (x : Fr) : bodyF (normF x) = bodyF x := by
  unfold bodyF tailF normF
  simp only [itemB_norm]
theorem four_len (n : Nat) : (four n).length = 4 := rfl
theorem sealB_inj {a b : List Nat} (h : sealB a = sealB b) : a = b := (List.append_inj' h rfl).1
theorem sealB_len (a : List Nat) : (sealB a).length = a.length + 4 := by simp [sealB, four_len]
theorem frB_norm (x : Fr) : frB (normF x) = frB x := by unfold frB; rw [bodyF_norm]
theorem sameF_bytes {x y : Fr} (hx : OkF x) (hy : OkF y) (cx : frameN x = 0) (cy : frameN y = 0) : sameF x y = decide (frB x = frB y) := by
  rw [Bool.eq_iff_iff, sameF_iff, decide_eq_true_iff]
  constructor
  · intro h; rw [← frB_norm x, h, frB_norm]
  · intro h
    have hb := sealB_inj h
    have h1 := takeF_p hx cx []
    have h2 := takeF_p hy cy []
    rw [hb, h2] at h1
    exact (congrArg (·.1) h1).symm

/-- what is taken is a frame's bytes -/
theorem failR_b {m : Nat} {l l' : List Nat} {u : Unit} (h : failR m (l, 0) = (u, (l', 0))) : m = 183 ∧ l = l' := by
  unfold failR at h
  by_cases hm : m = 183
  · rw [if_pos hm] at h
    exact ⟨hm, congrArg (·.2.1) h⟩
  · rw [if_neg hm, if_pos rfl] at h
    have h2 : (11 : Nat) = 0 := congrArg (·.2.2) h
    cases h2
theorem OkI.zero : OkI zeroI := ⟨by decide, by decide, by decide, by decide, (fun i p h => by cases h), by decide, by decide, by decide, by decide, by decide, by decide, by decide, by decide⟩
theorem z64 : (0 : Nat) < 18446744073709551616 := by decide
/-- of a frame that was taken -/
structure TookF (z : Fr) : Prop where
  ok : OkF z
  fit : z.i.g = false → FitI 12 8 8 16 z.i
theorem fit_zero : FitI 12 8 8 16 zeroI := ⟨by decide, by decide, by decide, by decide, fun p hp => by cases hp⟩
theorem byte_lt {l l' : List Nat} {c : Nat} (hok : OkB l) (h : l = [c] ++ l') : c < 256 := hok c (by rw [h]; simp)
theorem takeF_b {l l' : List Nat} {z : Fr} (hok : OkB l) (h : takeF (l, 0) = (z, (l', 0))) : l = bodyF z ++ l' ∧ TookF z := by
  obtain ⟨m, l1, h1, hA⟩ := bnd_ok h fun m => (failR_s m).bnd fun _ => rByte_s.bnd fun _ => rByte_s.bnd fun _ => rByte_s.bnd fun _ => restR_s _ _ _
  obtain ⟨u, l2, h2, hB⟩ := bnd_ok hA fun _ => rByte_s.bnd fun _ => rByte_s.bnd fun _ => rByte_s.bnd fun _ => restR_s _ _ _
  obtain ⟨k, l3, h3, hC⟩ := bnd_ok hB fun _ => rByte_s.bnd fun _ => rByte_s.bnd fun _ => restR_s _ _ _
  obtain ⟨f, l4, h4, hD⟩ := bnd_ok hC fun _ => rByte_s.bnd fun _ => restR_s _ _ _
  obtain ⟨t, l5, h5, hE⟩ := bnd_ok hD fun _ => restR_s _ _ _
  clear h hA hB hC hD
  have h := hE
  clear hE
  have e1 := rByte_b h1
  obtain ⟨rfl, rfl⟩ := failR_b h2
  have e3 := rByte_b h3
  have e4 := rByte_b h4
  have e5 := rByte_b h5
  have o1 : OkB l1 := by rw [e1] at hok; exact hok.behind
  have k3 := byte_lt o1 e3
  have o3 : OkB l3 := by rw [e3] at o1; exact o1.behind
  have k4 := byte_lt o3 e4
  have o4 : OkB l4 := by rw [e4] at o3; exact o3.behind
  have k5 := byte_lt o4 e5
  have o5 : OkB l5 := by rw [e5] at o4; exact o4.behind
  have key : l5 = tailF z ++ l' ∧ z.k = k ∧ z.f = f ∧ z.t = t ∧ TookF z := by
    unfold restR at h
    by_cases hk1 : k = 1
    · rw [if_pos hk1] at h
      obtain ⟨e, a1, g1, h⟩ := bnd_ok h fun _ => rU_s.bnd fun _ => takeR_s.bnd fun _ => Sticks.ret _
      obtain ⟨q, a2, g2, h⟩ := bnd_ok h fun _ => takeR_s.bnd fun _ => Sticks.ret _
      obtain ⟨i, a3, g3, h⟩ := bnd_ok h fun _ => Sticks.ret _
      obtain ⟨b1, n1⟩ := rU_b o5 g1
      have p1 : OkB a1 := by rw [b1] at o5; exact o5.behind
      obtain ⟨b2, n2⟩ := rU_b p1 g2
      have p2 : OkB a2 := by rw [b2] at p1; exact p1.behind
      obtain ⟨b3, b4, n3, n4⟩ := takeR_b p2 g3
      have hz : (⟨k, f, t, e, q, i, 0, 0, 0⟩ : Fr) = z := congrArg (·.1) h
      have hl : a3 = l' := congrArg (·.2.1) h
      subst hz
      refine ⟨?_, rfl, rfl, rfl, ⟨⟨k3, k4, k5, n1, n2, n3, z64, z64, z64⟩, n4⟩⟩
      unfold tailF
      rw [if_pos hk1, b1, b2, b4, hl]
      simp
    · rw [if_neg hk1] at h
      by_cases hk2 : k = 2
      · rw [if_pos hk2] at h
        obtain ⟨e, a1, g1, h⟩ := bnd_ok h fun _ => rU_s.bnd fun _ => rU_s.bnd fun _ => rU_s.bnd fun _ => Sticks.ret _
        obtain ⟨c, a2, g2, h⟩ := bnd_ok h fun _ => rU_s.bnd fun _ => rU_s.bnd fun _ => Sticks.ret _
        obtain ⟨b, a3, g3, h⟩ := bnd_ok h fun _ => rU_s.bnd fun _ => Sticks.ret _
        obtain ⟨m, a4, g4, h⟩ := bnd_ok h fun _ => Sticks.ret _
        obtain ⟨b1, n1⟩ := rU_b o5 g1
        have p1 : OkB a1 := by rw [b1] at o5; exact o5.behind
        obtain ⟨b2, n2⟩ := rU_b p1 g2
        have p2 : OkB a2 := by rw [b2] at p1; exact p1.behind
        obtain ⟨b3, n3⟩ := rU_b p2 g3
        have p3 : OkB a3 := by rw [b3] at p2; exact p2.behind
        obtain ⟨b4, n4⟩ := rU_b p3 g4
        have hz : (⟨k, f, t, e, 0, zeroI, c, b, m⟩ : Fr) = z := congrArg (·.1) h
        have hl : a4 = l' := congrArg (·.2.1) h
        subst hz
        refine ⟨?_, rfl, rfl, rfl, ⟨⟨k3, k4, k5, n1, z64, OkI.zero, n2, n3, n4⟩, fun _ => fit_zero⟩⟩
        unfold tailF
        rw [if_neg hk1, if_pos hk2, b1, b2, b3, b4, hl]
        simp
      · rw [if_neg hk2] at h
        have hz : (⟨k, f, t, 0, 0, zeroI, 0, 0, 0⟩ : Fr) = z := congrArg (·.1) h
        have hl : l5 = l' := congrArg (·.2.1) h
        subst hz
        refine ⟨?_, rfl, rfl, rfl, ⟨⟨k3, k4, k5, z64, z64, OkI.zero, z64, z64, z64⟩, fun _ => fit_zero⟩⟩
        unfold tailF
        rw [if_neg hk1, if_neg hk2, hl]
        rfl
  obtain ⟨e6, rfl, rfl, rfl, hT⟩ := key
  exact ⟨by rw [e1, e3, e4, e5, e6]; rfl, hT⟩

/-- no error of a sum comes from the reader -/
def NoSum {α : Type} (F : Rm α) : Prop := ∀ s, s.2 ≠ 10 → (F s).2.2 ≠ 10
section
variable {α β : Type}
theorem NoSum.ret (a : α) : NoSum (ret a) := fun _ h => h
theorem NoSum.bnd {F : Rm α} {G : α → Rm β} (h : NoSum F) (k : ∀ a, NoSum (G a)) : NoSum (bnd F G) := fun s hs => k _ _ (h s hs)
theorem NoSum.lft (z : α) (f : List Nat → α × List Nat × Nat) (h : ∀ l, (f l).2.2 ≠ 10) : NoSum (lft z f) := fun s hs => by
  unfold Proofs.YtnagmopejblegaaGreat.lft
  split
  · exact h _
  · exact hs
end
theorem rByte_n : NoSum rByte := NoSum.lft _ _ fun l => by cases l <;> exact fun h => by cases h
theorem getU_n : ∀ (l : List Nat) (i acc : Nat), (getU i acc l).2.2 ≠ 10
  | [], i, acc => fun h => by rw [getU] at h; cases h
  | c :: t, i, acc => by
    rw [getU]
    split
    · exact fun h => by cases h
    · split
      · exact fun h => by cases h
      · split
        · exact fun h => by cases h
        · exact getU_n t _ _
theorem rU_n : NoSum rU := NoSum.lft _ _ fun l => getU_n l 0 0
theorem rB_n : NoSum rB := NoSum.lft _ _ fun l => by
  unfold getB
  split
  · exact fun h => by cases h
  · split
    · exact fun h => by cases h
    · exact fun h => by cases h
theorem rT_n (m : Nat) : NoSum (rT m) := (NoSum.lft _ _ fun l => by
  have := getU_n l 0 0
  unfold getT
  split
  · exact this
  · split
    · exact fun h => by cases h
    · split
      · exact fun h => by cases h
      · exact fun h => by cases h).bnd fun _ => NoSum.ret _
theorem rC_n (m : Nat) : NoSum (rC m) := NoSum.lft _ _ fun l => by
  have := getU_n l 0 0
  unfold getC
  split
  · exact this
  · split
    · exact fun h => by cases h
    · exact fun h => by cases h
theorem rL_n (mk mv : Nat) : ∀ k, NoSum (rL mk mv k)
  | 0 => NoSum.ret _
  | k + 1 => (rT_n mk).bnd fun _ => (rT_n mv).bnd fun _ => (rL_n mk mv k).bnd fun _ => NoSum.ret _
theorem evR_n (mr mc mk mv : Nat) : NoSum (evR mr mc mk mv) := rByte_n.bnd fun _ => rU_n.bnd fun _ => rU_n.bnd fun _ => (rT_n mr).bnd fun _ => ((rC_n mc).bnd fun n => rL_n mk mv n).bnd fun _ => rByte_n.bnd fun _ => rByte_n.bnd fun _ => (rU_n.bnd fun _ => NoSum.ret _).bnd fun _ => rByte_n.bnd fun _ => NoSum.ret _
theorem gapR_n : NoSum gapR := rByte_n.bnd fun _ => rU_n.bnd fun _ => rU_n.bnd fun _ => NoSum.ret _
theorem chk_n : ∀ (l : List Pr) (p : Option Pr), chk p l ≠ 10
  | [], p => by rw [chk]; decide
  | q :: l, none => by
    rw [chk]
    split
    · exact chk_n l _
    · decide
  | q :: l, some p => by
    rw [chk]
    split
    · split
      · decide
      · split
        · decide
        · exact chk_n l _
    · decide
theorem itemN_n (x : It) : itemN x ≠ 10 := by
  unfold itemN gapN evN check
  split
  · split <;> decide
  · split
    · decide
    · split
      · decide
      · split
        · decide
        · split
          · decide
          · split
            · decide
            · exact chk_n _ _
theorem frameN_n (x : Fr) : frameN x ≠ 10 := by
  unfold frameN kindN dataN ackN aliveN
  repeat' (first | exact itemN_n _ | decide | split)
theorem chkR_n (x : It) : NoSum (chkR x) := fun s hs => by
  unfold chkR
  split
  · split
    · exact hs
    · exact itemN_n x
  · exact hs
theorem takeR_n : NoSum takeR := (rB_n.bnd fun g => by cases g; exact evR_n _ _ _ _; exact gapR_n).bnd fun x => chkR_n x
theorem failR_n (m : Nat) : NoSum (failR m) := fun s hs => by
  unfold failR
  split
  · exact hs
  · split
    · decide
    · exact hs
theorem takeF_n : NoSum takeF := rByte_n.bnd fun m => (failR_n m).bnd fun _ => rByte_n.bnd fun k => rByte_n.bnd fun f => rByte_n.bnd fun t => by
  unfold restR
  split
  · exact rU_n.bnd fun _ => rU_n.bnd fun _ => takeR_n.bnd fun _ => NoSum.ret _
  · split
    · exact rU_n.bnd fun _ => rU_n.bnd fun _ => rU_n.bnd fun _ => rU_n.bnd fun _ => NoSum.ret _
    · exact NoSum.ret _
/-- the error of a read to the end -/
def endN (s : St) : Nat := if s.2 = 0 then (if s.1 = [] then 0 else 25) else s.2
/-- the error of bytes as a frame's, and the frame -/
def decN (l : List Nat) : Nat := if endN (takeF (l, 0)).2 = 0 then frameN (takeF (l, 0)).1 else endN (takeF (l, 0)).2
def decFr (l : List Nat) : Fr := if decN l = 0 then (takeF (l, 0)).1 else zeroF
theorem endN_n {s : St} (h : s.2 ≠ 10) : endN s ≠ 10 := by
  unfold endN
  split
  · split <;> decide
  · exact h
theorem decN_n (l : List Nat) : decN l ≠ 10 := by
  unfold decN
  split
  · exact frameN_n _
  · exact endN_n (takeF_n (l, 0) (fun h => by cases h))
theorem decF_back {l : List Nat} (hok : OkB l) (h : decN l = 0) : frameN (decFr l) = 0 ∧ l = bodyF (decFr l) ∧ TookF (decFr l) := by
  have hF : decFr l = (takeF (l, 0)).1 := by unfold decFr; rw [if_pos h]
  unfold decN at h
  by_cases he : endN (takeF (l, 0)).2 = 0
  · rw [if_pos he] at h
    have hz : (takeF (l, 0)).2 = ([], 0) := by
      obtain ⟨⟨a, b⟩, hq⟩ : ∃ s, (takeF (l, 0)).2 = s := ⟨_, rfl⟩
      rw [hq] at he ⊢
      unfold endN at he
      by_cases hb : b = 0
      · subst hb
        rw [if_pos rfl] at he
        by_cases ha : a = []
        · rw [ha]
        · rw [if_neg ha] at he; cases he
      · rw [if_neg hb] at he; exact absurd he hb
    have ht : takeF (l, 0) = ((takeF (l, 0)).1, ([], 0)) := by rw [← hz]
    obtain ⟨h2, h3⟩ := takeF_b hok ht
    rw [List.append_nil] at h2
    rw [hF]
    exact ⟨h, h2, h3⟩
  · rw [if_neg he] at h
    exact absurd h he
end Go.Proofs.YtnagmopejblegaaGreat
