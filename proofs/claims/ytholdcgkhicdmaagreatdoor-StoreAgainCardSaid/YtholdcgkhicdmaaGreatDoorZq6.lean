/- Several texts in one: ItGet, Ref, ItSame, ItGet2. -/
import Derived.Laws.StructEq
import Derived.Test.YtholdcgkhicdmaaGreatDoorZq4
namespace Go.Proofs.YtholdcgkhicdmaaGreatDoor
open Go.RowKit
def cnt (i : Nat) : List Nat → Nat
 | [] => i
 | c :: t => if 128 ≤ c ∧ i < 9 then cnt (i + 1) t else i
theorem getU_end : ∀ (l : List Nat) (i acc : Nat), (∀ x ∈ l, x < 256) → i ≤ 9 →
  (cnt i l = i + l.length ∧ getU i acc l = (0, [], 3)) ∨
  ∃ (pre : List Nat) (c : Nat) (t : List Nat), l = pre ++ c :: t ∧ cnt i l = i + pre.length ∧
   ((i + pre.length = 9 ∧ 1 < c ∧ getU i acc l = (0, [], 6)) ∨
    (¬ (i + pre.length = 9 ∧ 1 < c) ∧ 0 < i + pre.length ∧ c = 0 ∧ getU i acc l = (0, [], 2)) ∨
    (¬ (i + pre.length = 9 ∧ 1 < c) ∧ ¬ (0 < i + pre.length ∧ c = 0) ∧ ∃ m, getU i acc l = (acc + 128 ^ i * m, t, 0) ∧ (0 < i → 0 < m) ∧ leb m = pre ++ [c]))
 | [], i, acc, _, _ => .inl ⟨rfl, rfl⟩
 | c :: t, i, acc, hok, hi => by
   have hc : c < 256 := hok c (by simp)
   by_cases h : 128 ≤ c ∧ i < 9
   ·have e1 : cnt i (c :: t) = cnt (i + 1) t := by rw [cnt, if_pos h]
    have e2 : getU i acc (c :: t) = getU (i + 1) (acc + 128 ^ i * (c % 128)) t := by
     rw [getU, if_neg (by omega), if_neg (by omega), if_neg (by omega)]
    rw [e1, e2]
    rcases getU_end t (i + 1) (acc + 128 ^ i * (c % 128)) (fun x hx => hok x (by simp [hx])) (by omega) with ⟨h1, h2⟩ | ⟨pre, d, t2, rfl, h2, h3⟩
    ·exact .inl ⟨by rw [h1, List.length_cons]; omega, h2⟩
    ·refine .inr ⟨c :: pre, d, t2, rfl, by rw [h2, List.length_cons]; omega, ?_⟩
     have el : i + (c :: pre).length = i + 1 + pre.length := by rw [List.length_cons]; omega
     rw [el]
     rcases h3 with ⟨a, b, e⟩ | ⟨a, b, e, f⟩ | ⟨a, b, m, e, f, k⟩
     ·exact .inl ⟨a, b, e⟩
     ·exact .inr (.inl ⟨a, b, e, f⟩)
     ·refine .inr (.inr ⟨a, b, c % 128 + 128 * m, ?_, fun _ => ?_, ?_⟩)
      ·rw [e, Nat.mul_add, Nat.pow_succ, Nat.mul_assoc, Nat.add_assoc]
      ·have := f (by omega); omega
      ·have hm := f (by omega)
       rw [leb_ge (by omega)]
       rw [show (c % 128 + 128 * m) % 128 + 128 = c by omega, show (c % 128 + 128 * m) / 128 = m by omega, k]
       rfl
   ·have e1 : cnt i (c :: t) = i := by rw [cnt, if_neg h]
    refine .inr ⟨[], c, t, rfl, by rw [e1]; rfl, ?_⟩
    simp only [List.length_nil, Nat.add_zero, List.nil_append]
    by_cases h1 : i = 9 ∧ 1 < c
    ·exact .inl ⟨h1.1, h1.2, by rw [getU, if_pos h1]⟩
    ·by_cases h2 : 0 < i ∧ c = 0
     ·exact .inr (.inl ⟨h1, h2.1, h2.2, by rw [getU, if_neg h1, if_pos h2]⟩)
     ·exact .inr (.inr ⟨h1, h2, c, by rw [getU, if_neg h1, if_neg h2, if_pos (by omega)], fun h3 => by omega, leb_lt (by omega)⟩)
theorem getT_text {s : ByteArray} (hs : s.size ≤ 1048576) (most : Nat) (hm : s.size ≤ most) (rest : List Nat) : getT most (leb s.size ++ bytesN s ++ rest) = (bytesN s, rest, 0) := by
 unfold getT
 rw [List.append_assoc, getU_put (by omega)]
 simp only [ne_eq, not_true_eq_false, if_false]
 rw [if_neg (by omega), if_neg (by rw [List.length_append, bytesN_length]; omega)]
 have hl := bytesN_length s
 rw [← hl, List.take_left, List.drop_left]
abbrev St := List Nat × Nat
abbrev Rm (α : Type) := St → α × St
section
variable {α β : Type}
def bnd (F : Rm α) (G : α → Rm β) : Rm β := fun s => G (F s).1 (F s).2
def ret (a : α) : Rm α := fun s => (a, s)
def lft (z : α) (f : List Nat → α × List Nat × Nat) : Rm α := fun s => if s.2 = 0 then f s.1 else (z, s)
def Sticks (F : Rm α) : Prop := ∀ l e, e ≠ 0 → (F (l, e)).2 = (l, e)
def Puts2 (F : Rm α) (B : List Nat) (a : α) : Prop := ∀ rest, F (B ++ rest, 0) = (a, (rest, 0))
theorem Sticks.lft (z : α) (f : List Nat → α × List Nat × Nat) : Sticks (lft z f) := fun l e he => by simp [Proofs.YtholdcgkhicdmaaGreatDoor.lft, he]
theorem Sticks.ret (a : α) : Sticks (ret a) := fun _ _ _ => rfl
theorem Sticks.bnd {F : Rm α} {G : α → Rm β} (h : Sticks F) (k : ∀ a, Sticks (G a)) : Sticks (bnd F G) := fun l e he => by
 show (G (F (l, e)).1 (F (l, e)).2).2 = _
 rw [h l e he]
 exact k _ l e he
theorem Puts2.ret (a : α) : Puts2 (ret a) [] a := fun _ => rfl
theorem Puts2.bnd {F : Rm α} {G : α → Rm β} {B1 B2 : List Nat} {a : α} {b : β} (h : Puts2 F B1 a) (k : Puts2 (G a) B2 b) : Puts2 (bnd F G) (B1 ++ B2) b := fun rest => by
 show G (F (B1 ++ B2 ++ rest, 0)).1 (F (B1 ++ B2 ++ rest, 0)).2 = _
 rw [List.append_assoc, h]
 exact k rest
theorem bnd_ok {F : Rm α} {G : α → Rm β} {l l' : List Nat} {b : β} (h : bnd F G (l, 0) = (b, (l', 0))) (ks : ∀ a, Sticks (G a)) : ∃ a l1, F (l, 0) = (a, (l1, 0)) ∧ G a (l1, 0) = (b, (l', 0)) := by
 have e : bnd F G (l, 0) = G (F (l, 0)).1 (F (l, 0)).2 := rfl
 rw [e] at h
 obtain ⟨a, l1, e1, hF⟩ : ∃ a l1 e1, F (l, 0) = (a, (l1, e1)) := ⟨_, _, _, rfl⟩
 rw [hF] at h
 by_cases he : e1 = 0
 ·subst he; exact ⟨a, l1, hF, h⟩
 ·have h2 := ks a l1 e1 he
  have h3 : G a (l1, e1) = (b, (l', 0)) := h
  rw [h3] at h2
  have h4 : (0 : Nat) = e1 := congrArg (·.2) h2
  exact absurd h4.symm he
end
def oneB : List Nat → Nat × List Nat × Nat
 | [] => (0, [], 3)
 | c :: t => (c, t, 0)
def rByte : Rm Nat := lft 0 oneB
def rU : Rm Nat := lft 0 (getU 0 0)
def rI : Rm Int := bnd rU fun n => ret (zag n)
def rB : Rm Bool := lft false getB
def rT (m : Nat) : Rm ByteArray := bnd (lft [] (getT m)) fun l => ret (strB l)
def rC (top : Nat) : Rm Nat := lft 0 (getC top)
def rL (mk mv : Nat) : Nat → Rm (List Pr)
 | 0 => ret []
 | k + 1 => bnd (rT mk) fun a => bnd (rT mv) fun b => bnd (rL mk mv k) fun l => ret ((a, b) :: l)
def rLabs (mc mk mv : Nat) : Rm (List Pr) := bnd (rC mc) fun n => rL mk mv n
def evR (mr mc mk mv : Nat) : Rm It := bnd rByte fun o => bnd rU fun q => bnd rU fun t => bnd (rT mr) fun r => bnd (rLabs mc mk mv) fun l => bnd rByte fun s => bnd rByte fun p => bnd rI fun v => bnd rByte fun w => ret ⟨false, o, q, t, r, l, s, p, v, w, 0, 0, 0⟩
def gapR : Rm It := bnd rByte fun o => bnd rU fun f => bnd rU fun t => ret ⟨true, 0, 0, 0, ⟨#[]⟩, [], 0, 0, 0, 0, o, f, t⟩
def itR (mr mc mk mv : Nat) : Rm It := bnd rB fun g => if g then gapR else evR mr mc mk mv
def zeroI : It := ⟨false, 0, 0, 0, ⟨#[]⟩, [], 0, 0, 0, 0, 0, 0, 0⟩
def chkR (x : It) : Rm It := fun s => if s.2 = 0 then (if itemN x = 0 then (x, s) else (zeroI, ([], itemN x))) else (zeroI, s)
def takeR : Rm It := bnd (itR 12 8 8 16) chkR
def normI (x : It) : It := if x.g then ⟨true, 0, 0, 0, ⟨#[]⟩, [], 0, 0, 0, 0, x.ga, x.gf, x.gt⟩ else ⟨false, x.o, x.q, x.t, x.r, x.l, x.s, x.p, x.v, x.w, 0, 0, 0⟩
theorem rByte_s : Sticks rByte := Sticks.lft _ _
theorem rU_s : Sticks rU := Sticks.lft _ _
theorem rI_s : Sticks rI := rU_s.bnd fun _ => Sticks.ret _
theorem rB_s : Sticks rB := Sticks.lft _ _
theorem rT_s (m : Nat) : Sticks (rT m) := (Sticks.lft _ _).bnd fun _ => Sticks.ret _
theorem rC_s (top : Nat) : Sticks (rC top) := Sticks.lft _ _
theorem rL_s (mk mv : Nat) : ∀ k, Sticks (rL mk mv k)
 | 0 => Sticks.ret _
 | k + 1 => (rT_s mk).bnd fun _ => (rT_s mv).bnd fun _ => (rL_s mk mv k).bnd fun _ => Sticks.ret _
theorem rLabs_s (mc mk mv : Nat) : Sticks (rLabs mc mk mv) := (rC_s mc).bnd fun n => rL_s mk mv n
theorem evR_s (mr mc mk mv : Nat) : Sticks (evR mr mc mk mv) := rByte_s.bnd fun _ => rU_s.bnd fun _ => rU_s.bnd fun _ => (rT_s mr).bnd fun _ => (rLabs_s mc mk mv).bnd fun _ => rByte_s.bnd fun _ => rByte_s.bnd fun _ => rI_s.bnd fun _ => rByte_s.bnd fun _ => Sticks.ret _
theorem gapR_s : Sticks gapR := rByte_s.bnd fun _ => rU_s.bnd fun _ => rU_s.bnd fun _ => Sticks.ret _
theorem itG_s (mr mc mk mv : Nat) (g : Bool) : Sticks (if g then gapR else evR mr mc mk mv) := by
 cases g
 ·exact evR_s mr mc mk mv
 ·exact gapR_s
theorem chkR_s (x : It) : Sticks (chkR x) := fun l e he => by simp [chkR, he]
theorem rByte_p (c : Nat) : Puts2 rByte [c] c := fun _ => rfl
theorem rU_p {n : Nat} (h : n < 18446744073709551616) : Puts2 rU (leb n) n := fun rest => by
 show getU 0 0 (leb n ++ rest) = _
 exact getU_put h rest
theorem rI_p {z : Int} (h1 : -9223372036854775808 ≤ z) (h2 : z < 9223372036854775808) : Puts2 rI (leb (zig z)) z := by
 intro rest
 show (ret (zag (rU (leb (zig z) ++ rest, 0)).1)) (rU (leb (zig z) ++ rest, 0)).2 = _
 rw [rU_p (zig_lt h1 h2) rest, zag_zig]
 rfl
theorem rB_p (g : Bool) : Puts2 rB [if g then 1 else 0] g := fun _ => by cases g <;> rfl
theorem rT_p {s : ByteArray} (hs : s.size ≤ 1048576) {m : Nat} (hm : s.size ≤ m) : Puts2 (rT m) (textB s) s := fun rest => by
 show (ret (strB ((lft [] (getT m)) (textB s ++ rest, 0)).1)) ((lft [] (getT m)) (textB s ++ rest, 0)).2 = _
 have e : (lft [] (getT m)) (textB s ++ rest, 0) = (bytesN s, (rest, 0)) := getT_text hs m hm rest
 rw [e]
 show (strB (bytesN s), (rest, 0)) = _
 rw [strB_bytesN]
theorem rC_p {n top : Nat} (h : n ≤ top) (hn : n < 18446744073709551616) : Puts2 (rC top) (leb n) n := fun rest => by
 show getC top (leb n ++ rest) = _
 unfold getC
 rw [getU_put hn]
 simp only [ne_eq, not_true_eq_false, if_false]
 rw [if_neg (by omega)]
def FitL (mk mv : Nat) (l : List Pr) : Prop := ∀ p ∈ l, (p.1.size ≤ mk ∧ p.2.size ≤ mv) ∧ p.1.size ≤ 1048576 ∧ p.2.size ≤ 1048576
theorem rL_p {mk mv : Nat} : ∀ {l : List Pr}, FitL mk mv l → Puts2 (rL mk mv l.length) (labsB l) l
 | [], _ => Puts2.ret _
 | p :: r, h => by
   obtain ⟨⟨h1, h2⟩, h3, h4⟩ := h p (by simp)
   have hr := rL_p (l := r) (fun q hq => h q (by simp [hq]))
   have k := (rT_p h3 h1).bnd (G := fun a => bnd (rT mv) fun b => bnd (rL mk mv r.length) fun l => ret ((a, b) :: l)) ((rT_p h4 h2).bnd (G := fun b => bnd (rL mk mv r.length) fun l => ret ((p.1, b) :: l)) (hr.bnd (G := fun l => ret ((p.1, p.2) :: l)) (Puts2.ret _)))
   rw [List.append_nil, ← List.append_assoc] at k
   exact k
theorem rLabs_p {mc mk mv : Nat} {l : List Pr} (hl : l.length ≤ mc) (hl2 : l.length ≤ 1048576) (h : FitL mk mv l) : Puts2 (rLabs mc mk mv) (leb l.length ++ labsB l) l :=
 (rC_p hl (by omega)).bnd (G := fun n => rL mk mv n) (rL_p h)
structure FitI (mr mc mk mv : Nat) (x : It) : Prop where
 r : x.r.size ≤ mr
 r2 : x.r.size ≤ 1048576
 c : x.l.length ≤ mc
 c2 : x.l.length ≤ 1048576
 l : FitL mk mv x.l
theorem evB_right (x : It) : evB x = [x.o] ++ (leb x.q ++ (leb x.t ++ (textB x.r ++ ((leb x.l.length ++ labsB x.l) ++ ([x.s] ++ ([x.p] ++ (leb (zig x.v) ++ ([x.w] ++ [])))))))) := by
 simp [evB, headB, tailB]
theorem gapB_right (x : It) : gapB x = [x.ga] ++ (leb x.gf ++ (leb x.gt ++ [])) := by simp [gapB]
theorem itemB_right (x : It) : itemB x = [if x.g then 1 else 0] ++ (if x.g then gapB x else evB x) := by
 unfold itemB
 cases x.g <;> rfl
section
variable {mr mc mk mv : Nat} {x : It}
theorem evR_p (hx : OkI x) (hf : FitI mr mc mk mv x) : Puts2 (evR mr mc mk mv) (evB x) ⟨false, x.o, x.q, x.t, x.r, x.l, x.s, x.p, x.v, x.w, 0, 0, 0⟩ := by
 rw [evB_right]
 exact (rByte_p x.o).bnd ((rU_p hx.q).bnd ((rU_p hx.t).bnd ((rT_p hf.r2 hf.r).bnd ((rLabs_p hf.c hf.c2 hf.l).bnd ((rByte_p x.s).bnd ((rByte_p x.p).bnd ((rI_p hx.v0 hx.v1).bnd ((rByte_p x.w).bnd (Puts2.ret _)))))))))
theorem gapR_p (hx : OkI x) : Puts2 gapR (gapB x) ⟨true, 0, 0, 0, ⟨#[]⟩, [], 0, 0, 0, 0, x.ga, x.gf, x.gt⟩ := by
 rw [gapB_right]
 exact (rByte_p x.ga).bnd ((rU_p hx.gf).bnd ((rU_p hx.gt).bnd (Puts2.ret _)))
end
def eqP (p q : Pr) : Bool := eqS p.1 q.1 && eqS p.2 q.2
theorem eqP_iff (p q : Pr) : eqP p q = true ↔ p = q := by
 unfold eqP
 rw [Bool.and_eq_true, eqS_iff, eqS_iff]
 exact ⟨fun h => Prod.ext h.1 h.2, fun h => by rw [h]; exact ⟨rfl, rfl⟩⟩
theorem run_neqP (p q : Pr) (w : World) : (binOp .neq 37 (.agg #[.string p.1, .string p.2]) (.agg #[.string q.1, .string q.2])).run Tryz.prog w = .ok (.bool !(eqP p q)) w := by
 have u9 := Tryz.underlying9
 have hS : Tryz.prog.underlying 37 = some (.struct (Tryz.prog.fieldsOf 37)) := by kernel_rfl
 have hp : Tryz.prog.stoodInHeld 37 = false := by kernel_rfl
 rw [run_neq_struct, show (10000 : Nat) = 9999 + 1 from rfl, run_equalIn_struct w 9999 37 _ _ hS hp]
 simp only [Program.fieldsOf, Tryz.underlying37]
 go_simp
 unfold eqP eqS
 by_cases h1 : p.1.toList = q.1.toList <;> by_cases h2 : p.2.toList = q.2.toList <;> simp [h1, h2]
set_option maxRecDepth 100000 in
set_option maxHeartbeats 400000 in
theorem rsame_any (A : Option Addr) (n c : Nat) (a : List Pr) (A' : Option Addr) (m d : Nat) (b : List Pr) (w : World) (B : Nat) (hn : n = a.length) (hm : m = b.length) (hmx : n ≤ maxLen) (ha : RdP w B A a) (hb : RdP w B A' b) :
  Calls Tryz.prog 53 #[.slice A n c, .slice A' m d] w fun e w' => e = .returned (.bool (decide (a = b))) ∧ ∃ q, w' = w.drewN q := by
 unfold maxLen at hmx
 have Hn := Lib.hid hn
 have Hm := Lib.hid hm
 clear hn hm
 by_cases hl : n = m
 ·have hl' := hl
  subst hl
  have hneq : ((n : Int) != (n : Int)) = false := by simp
  go_enter Tryz.func53, Tryz.ntmps53
  go_wp2
  go_loopw [5] (fun i wr => ∃ k q : Nat, k ≤ n ∧ i = .int .i64 k ∧ Hid (∀ j, j < k → a[j]? = b[j]?) ∧ wr = w.drewN q) (fun i _ => n - (intOf i).toNat)
  case atStart => exact ⟨0, 0, Nat.zero_le _, rfl, fun j hj => by omega, rfl⟩
  case round =>
   obtain ⟨k, q, hk, rfl, Hk, rfl⟩ := hrel
   by_cases hlt : k < n
   ·obtain ⟨b1, o1, p1, rfl, -, hp1, hc1, hc2⟩ := ha.at_ (k := k) (by have := Hn.out; omega)
    obtain ⟨b2, o2, p2, rfl, -, hp2, hc3, hc4⟩ := hb.at_ (k := k) (by have := Hm.out; omega)
    have Hp1 := Lib.hid hp1
    have Hp2 := Lib.hid hp2
    have hne := run_neqP p1 p2
    clear hp1 hp2 ha hb
    by_cases he : eqP p1 p2 = true
    ·have Hres : Hid (a[k]? = b[k]?) := by show a[k]? = b[k]?; rw [Hp1.out, Hp2.out, (eqP_iff _ _).1 he]
     rw [he] at hne
     clear he
     go_wp2
     go_quiet (fail)
     go_wp2
     refine ⟨⟨k + 1, _, by omega, by go_num, fun j hj => ?_, rfl⟩, by simp [intOf]; omega⟩
     by_cases hjk : j = k
     ·subst hjk; exact Hres.out
     ·exact Hk.out j (by omega)
    ·have Hres : Hid (decide (a = b) = false) := decide_eq_false fun h => by
      have h1 := Hp1.out
      rw [h, Hp2.out] at h1
      exact he ((eqP_iff _ _).2 (Option.some.inj h1).symm)
     have he : eqP p1 p2 = false := by simpa using he
     rw [he] at hne
     clear he
     go_wp2
     go_quiet (fail)
     go_wp2
     go_ret
     exact ⟨ret_bool Hres.out.symm, q + nq, World.drewN_drewN ..⟩
   ·have Hres : Hid (decide (a = b) = true) := decide_eq_true (List.ext_getElem? fun j => by
     by_cases hj : j < k
     ·exact Hk.out j hj
     ·rw [List.getElem?_eq_none (by have := Hn.out; omega), List.getElem?_eq_none (by have := Hm.out; omega)])
    clear ha hb
    go_wp2
    go_ret
    exact ⟨ret_bool Hres.out.symm, _, rfl⟩
 ·have Hres : Hid (decide (a = b) = false) := decide_eq_false fun h => hl (by rw [Hn.out, Hm.out, h])
  have hneq : ((n : Int) != (m : Int)) = true := by rw [bne_iff_ne]; omega
  go_enter Tryz.func53, Tryz.ntmps53
  go_wp2
  go_ret
  exact ⟨ret_bool Hres.out.symm, 0, rfl⟩
set_option maxRecDepth 100000 in
set_option maxHeartbeats 400000 in
theorem equal_any (A : Option Addr) (n c : Nat) (a : List Pr) (A' : Option Addr) (m d : Nat) (b : List Pr) (w : World) (B : Nat) (hn : n = a.length) (hm : m = b.length) (hmx : n ≤ maxLen) (ha : RdP w B A a) (hb : RdP w B A' b) :
  Calls Tryz.prog 159 #[.slice A n c, .slice A' m d] w fun e w' => e = .returned (.bool (decide (a = b))) ∧ ∃ q, w' = w.drewN q := by
 unfold maxLen at hmx
 have Hn := Lib.hid hn
 have Hm := Lib.hid hm
 clear hn hm
 by_cases hl : n = m
 ·have hl' := hl
  subst hl
  have hneq : ((n : Int) != (n : Int)) = false := by simp
  go_enter Tryz.func159, Tryz.ntmps159
  go_wp2
  go_loopw [13] (fun i wr => ∃ k q : Nat, k ≤ n ∧ i = .int .i64 k ∧ Hid (∀ j, j < k → a[j]? = b[j]?) ∧ wr = w.drewN q) (fun i _ => n - (intOf i).toNat)
  case atStart => exact ⟨0, 0, Nat.zero_le _, rfl, fun j hj => by omega, rfl⟩
  case round =>
   obtain ⟨k, q, hk, rfl, Hk, rfl⟩ := hrel
   by_cases hlt : k < n
   ·obtain ⟨b1, o1, p1, rfl, -, hp1, hc1, hc2⟩ := ha.at_ (k := k) (by have := Hn.out; omega)
    obtain ⟨b2, o2, p2, rfl, -, hp2, hc3, hc4⟩ := hb.at_ (k := k) (by have := Hm.out; omega)
    have Hp1 := Lib.hid hp1
    have Hp2 := Lib.hid hp2
    have hne := run_neqP p1 p2
    clear hp1 hp2 ha hb
    by_cases he : eqP p1 p2 = true
    ·have Hres : Hid (a[k]? = b[k]?) := by show a[k]? = b[k]?; rw [Hp1.out, Hp2.out, (eqP_iff _ _).1 he]
     rw [he] at hne
     clear he
     go_wp2
     go_quiet (fail)
     go_wp2
     refine ⟨⟨k + 1, _, by omega, by go_num, fun j hj => ?_, rfl⟩, by simp [intOf]; omega⟩
     by_cases hjk : j = k
     ·subst hjk; exact Hres.out
     ·exact Hk.out j (by omega)
    ·have Hres : Hid (decide (a = b) = false) := decide_eq_false fun h => by
      have h1 := Hp1.out
      rw [h, Hp2.out] at h1
      exact he ((eqP_iff _ _).2 (Option.some.inj h1).symm)
     have he : eqP p1 p2 = false := by simpa using he
     rw [he] at hne
     clear he
     go_wp2
     go_quiet (fail)
     go_wp2
     go_ret
     exact ⟨ret_bool Hres.out.symm, q + nq, World.drewN_drewN ..⟩
   ·have Hres : Hid (decide (a = b) = true) := decide_eq_true (List.ext_getElem? fun j => by
     by_cases hj : j < k
     ·exact Hk.out j hj
     ·rw [List.getElem?_eq_none (by have := Hn.out; omega), List.getElem?_eq_none (by have := Hm.out; omega)])
    clear ha hb
    go_wp2
    go_ret
    exact ⟨ret_bool Hres.out.symm, _, rfl⟩
 ·have Hres : Hid (decide (a = b) = false) := decide_eq_false fun h => hl (by rw [Hn.out, Hm.out, h])
  have hneq : ((n : Int) != (m : Int)) = true := by rw [bne_iff_ne]; omega
  go_enter Tryz.func159, Tryz.ntmps159
  go_wp2
  go_ret
  exact ⟨ret_bool Hres.out.symm, 0, rfl⟩
set_option maxHeartbeats 400000 in
theorem same_any (A : Option Addr) (n c : Nat) (a : List Pr) (A' : Option Addr) (m d : Nat) (b : List Pr) (w : World) (B : Nat) (hn : n = a.length) (hm : m = b.length) (hmx : n ≤ maxLen) (ha : RdP w B A a) (hb : RdP w B A' b) :
  Calls Tryz.prog 120 #[.slice A n c, .slice A' m d] w fun e w' => e = .returned (.bool (decide (a = b))) ∧ ∃ q, w' = w.drewN q := by
 have He := Lib.hid (equal_any A n c a A' m d b w B hn hm hmx ha hb)
 clear hn hm hmx ha hb
 go_enter Tryz.func120, Tryz.ntmps120
 go_wp2_with fail
 refine He.out.mono ?_
 rintro e w' ⟨rfl, q, rfl⟩
 go_wp2
 go_ret
 exact ⟨rfl, q, rfl⟩
def sameEv (a b : It) : Bool := decide (a.o = b.o ∧ a.q = b.q ∧ a.t = b.t ∧ a.r = b.r ∧ a.s = b.s ∧ a.p = b.p ∧ a.v = b.v ∧ a.w = b.w ∧ a.l = b.l)
def sameG (a b : It) : Bool := decide (a.ga = b.ga ∧ a.gf = b.gf ∧ a.gt = b.gt)
def sameI (a b : It) : Bool := if a.g != b.g then false else if a.g then sameG a b else sameEv a b
theorem run_eqlG (a b : It) (w : World) : (binOp .eql 45 (.agg #[.int .u8 a.ga, .int .u64 a.gf, .int .u64 a.gt]) (.agg #[.int .u8 b.ga, .int .u64 b.gf, .int .u64 b.gt])).run Tryz.prog w = .ok (.bool (sameG a b)) w := by
 have u5 := Tryz.underlying5
 have u22 := Tryz.underlying34
 have hS : Tryz.prog.underlying 45 = some (.struct (Tryz.prog.fieldsOf 45)) := by kernel_rfl
 have hp : Tryz.prog.stoodInHeld 45 = false := by kernel_rfl
 rw [run_eql_struct, show (10000 : Nat) = 9999 + 1 from rfl, run_equalIn_struct w 9999 45 _ _ hS hp]
 simp only [Program.fieldsOf, Tryz.underlying45]
 go_simp
 unfold sameG
 have e1 : ((a.ga : Int) = (b.ga : Int)) = (a.ga = b.ga) := propext (by omega)
 have e2 : ((a.gf : Int) = (b.gf : Int)) = (a.gf = b.gf) := propext (by omega)
 have e3 : ((a.gt : Int) = (b.gt : Int)) = (a.gt = b.gt) := propext (by omega)
 simp only [e1, e2, e3]
 by_cases h1 : a.ga = b.ga <;> by_cases h2 : a.gf = b.gf <;> by_cases h3 : a.gt = b.gt <;> simp [h1, h2, h3]
theorem str_ne {a b : ByteArray} (h : a ≠ b) : (a.toList == b.toList) = false := by
 have h2 := eqS_iff a b
 unfold eqS at h2
 rw [Bool.eq_false_iff]
 exact fun e => h (h2.1 e)
theorem str_eq {a b : ByteArray} (h : a = b) : (a.toList == b.toList) = true := by rw [h]; exact beq_self_eq_true _
theorem sameEv_no {a b : It} (h : ¬ (a.o = b.o ∧ a.q = b.q ∧ a.t = b.t ∧ a.r = b.r ∧ a.s = b.s ∧ a.p = b.p ∧ a.v = b.v ∧ a.w = b.w ∧ a.l = b.l)) : sameEv a b = false := decide_eq_false h
theorem sameEv_labs {a b : It} (h : a.o = b.o ∧ a.q = b.q ∧ a.t = b.t ∧ a.r = b.r ∧ a.s = b.s ∧ a.p = b.p ∧ a.v = b.v ∧ a.w = b.w) : sameEv a b = decide (a.l = b.l) := by
 unfold sameEv
 by_cases hl : a.l = b.l
 ·rw [decide_eq_true hl, decide_eq_true ⟨h.1, h.2.1, h.2.2.1, h.2.2.2.1, h.2.2.2.2.1, h.2.2.2.2.2.1, h.2.2.2.2.2.2.1, h.2.2.2.2.2.2.2, hl⟩]
 ·rw [decide_eq_false hl, decide_eq_false (fun e => hl e.2.2.2.2.2.2.2.2)]
theorem normI_N (x : It) : itemN (normI x) = itemN x := by
 unfold normI itemN
 by_cases h : x.g = true
 ·rw [if_pos h]; simp only [if_true, h]; rfl
 ·have h2 : x.g = false := by simpa using h
  rw [if_neg h]; simp only [h2]; rfl
theorem normI_g (x : It) : (normI x).g = x.g := by
 unfold normI
 by_cases h : x.g = true
 ·rw [if_pos h, h]
 ·have h2 : x.g = false := by simpa using h
  rw [if_neg h, h2]
theorem normI_eq (x y : It) : sameI x y = true ↔ normI x = normI y := by
 unfold sameI
 by_cases h : x.g = y.g
 ·rw [if_neg (by simp [h])]
  by_cases hg : x.g = true
  ·have hy : y.g = true := by rw [← h]; exact hg
   rw [if_pos hg]
   unfold sameG normI
   rw [if_pos hg, if_pos hy, decide_eq_true_eq]
   simp
  ·have hy : ¬ y.g = true := by rw [← h]; exact hg
   rw [if_neg hg]
   unfold sameEv normI
   rw [if_neg hg, if_neg hy, decide_eq_true_eq]
   simp only [It.mk.injEq, true_and, and_true]
   constructor
   ·rintro ⟨a, b, c, d, e, f, g, i, j⟩; exact ⟨a, b, c, d, j, e, f, g, i⟩
   ·rintro ⟨a, b, c, d, j, e, f, g, i⟩; exact ⟨a, b, c, d, e, f, g, i, j⟩
 ·rw [if_pos (by simp [h])]
  constructor
  ·intro e; cases e
  ·intro e
   have := congrArg It.g e
   rw [normI_g, normI_g] at this
   exact absurd this h
theorem sameI_refl (x : It) : sameI x x = true := (normI_eq x x).2 rfl
section
variable {mr mc mk mv : Nat} {x : It}
theorem itR_p (hx : OkI x) (hf : x.g = false → FitI mr mc mk mv x) : Puts2 (itR mr mc mk mv) (itemB x) (normI x) := by
 rw [itemB_right]
 refine (rB_p x.g).bnd ?_
 unfold normI
 cases hg : x.g with
 | true => exact gapR_p hx
 | false => exact evR_p hx (hf hg)
end
theorem keyB_size {s : ByteArray} (h : keyB s = true) : s.size ≤ 8 := by
 unfold keyB fitsB at h
 simp only [Bool.and_eq_true, decide_eq_true_eq] at h
 exact h.1.2
theorem valueB_size {s : ByteArray} (h : valueB s = true) : s.size ≤ 16 := by
 unfold valueB fitsB at h
 simp only [Bool.and_eq_true, decide_eq_true_eq] at h
 exact h.1.2
theorem nameB_size {s : ByteArray} (h : nameB s = true) : s.size ≤ 12 := by
 unfold nameB fitsB at h
 simp only [Bool.and_eq_true, decide_eq_true_eq] at h
 exact h.1.1.2
theorem chk_ok : ∀ {l : List Pr} {q : Option Pr}, chk q l = 0 → ∀ p ∈ l, keyB p.1 = true ∧ valueB p.2 = true
 | [], _, _, p, hp => by cases hp
 | x :: r, q, h, p, hp => by
   have hk : (keyB x.1 && valueB x.2) = true ∧ chk (some x) r = 0 := by
    cases q with
    | none =>
      rw [chk] at h
      split at h
      ·exact ⟨by assumption, h⟩
      ·cases h
    | some q =>
      rw [chk] at h
      split at h
      ·split at h
       ·cases h
       ·split at h
        ·cases h
        ·exact ⟨by assumption, h⟩
      ·cases h
   rcases List.mem_cons.1 hp with rfl | hp
   ·simpa using hk.1
   ·exact chk_ok hk.2 p hp
theorem fit_right {x : It} (h : itemN x = 0) (hg : x.g = false) : FitI 12 8 8 16 x := by
 unfold itemN at h
 rw [if_neg (by rw [hg]; decide)] at h
 unfold evN at h
 split at h
 ·cases h
 split at h
 ·cases h
 rename_i hn
 split at h
 ·cases h
 split at h
 ·cases h
 have hn2 : nameB x.r = true := by simpa using hn
 unfold check at h
 split at h
 ·cases h
 rename_i hl
 have hs := nameB_size hn2
 refine ⟨hs, by omega, by omega, by omega, fun p hp => ?_⟩
 obtain ⟨h1, h2⟩ := chk_ok h p hp
 have h3 := keyB_size h1
 have h4 := valueB_size h2
 exact ⟨⟨h3, h4⟩, by omega, by omega⟩
theorem chkR_p {x : It} (h : itemN x = 0) : Puts2 (chkR x) [] x := fun rest => by
 show chkR x (rest, 0) = _
 simp [chkR, h]
theorem takeR_p {x : It} (hx : OkI x) (h : itemN x = 0) : Puts2 takeR (itemB x) (normI x) := by
 have k := (itR_p hx (fit_right h)).bnd (G := chkR) (chkR_p (by rw [normI_N, h]))
 rwa [List.append_nil] at k
theorem getU_back {l l' : List Nat} {n : Nat} (hok : OkB l) (h : getU 0 0 l = (n, l', 0)) : l = leb n ++ l' := by
 rcases getU_end l 0 0 hok (by omega) with ⟨_, h2⟩ | ⟨pre, c, t, rfl, _, h3⟩
 ·rw [h2] at h
  exact absurd (congrArg (·.2.2) h) (show ¬ (3 : Nat) = 0 by decide)
 ·rcases h3 with ⟨_, _, e⟩ | ⟨_, _, _, e⟩ | ⟨_, _, m, e, _, k⟩
  ·rw [e] at h; exact absurd (congrArg (·.2.2) h) (show ¬ (6 : Nat) = 0 by decide)
  ·rw [e] at h; exact absurd (congrArg (·.2.2) h) (show ¬ (2 : Nat) = 0 by decide)
  ·rw [e] at h
   have h1 : 0 + 128 ^ 0 * m = n := congrArg (·.1) h
   have h2 : t = l' := congrArg (·.2.1) h
   subst h2
   obtain rfl : m = n := by omega
   rw [k, List.append_assoc]; rfl
theorem rByte_b {l l' : List Nat} {c : Nat} (h : rByte (l, 0) = (c, (l', 0))) : l = [c] ++ l' := by
 cases l with
 | nil => exact absurd (congrArg (·.2.2) h) (show ¬ (3 : Nat) = 0 by decide)
 | cons d t =>
   have h1 : d = c := congrArg (·.1) h
   have h2 : t = l' := congrArg (·.2.1) h
   rw [h1, h2]; rfl
theorem rU_b {l l' : List Nat} {n : Nat} (hok : OkB l) (h : rU (l, 0) = (n, (l', 0))) : l = leb n ++ l' ∧ n < 18446744073709551616 := by
 have h1 : getU 0 0 l = (n, l', 0) := h
 refine ⟨getU_back hok h1, ?_⟩
 have := getU_lt l 0 0 hok (by omega) (by decide)
 rw [h1] at this
 exact this
theorem zig_zag {n : Nat} : zig (zag n) = n := by
 unfold zig zag
 by_cases h : n % 2 = 1
 ·rw [if_pos h, if_pos (by omega)]; omega
 ·rw [if_neg h, if_neg (by omega)]; omega
theorem zag_bounds {n : Nat} (h : n < 18446744073709551616) : -9223372036854775808 ≤ zag n ∧ zag n < 9223372036854775808 := by
 unfold zag
 split <;> omega
theorem rI_b {l l' : List Nat} {z : Int} (hok : OkB l) (h : rI (l, 0) = (z, (l', 0))) : l = leb (zig z) ++ l' ∧ -9223372036854775808 ≤ z ∧ z < 9223372036854775808 := by
 obtain ⟨n, l1, h1, h2⟩ := bnd_ok h (fun _ => Sticks.ret _)
 have e1 : zag n = z := congrArg (·.1) h2
 have e2 : l1 = l' := congrArg (·.2.1) h2
 obtain ⟨h3, h4⟩ := rU_b hok h1
 rw [← e1, ← e2, zig_zag]
 exact ⟨h3, zag_bounds h4⟩
theorem rB_b {l l' : List Nat} {g : Bool} (h : rB (l, 0) = (g, (l', 0))) : l = [if g then 1 else 0] ++ l' := by
 have h0 : getB l = (g, l', 0) := h
 cases l with
 | nil => exact absurd (congrArg (·.2.2) h0) (show ¬ (3 : Nat) = 0 by decide)
 | cons c t =>
   rw [getB] at h0
   split at h0
   ·exact absurd (congrArg (·.2.2) h0) (show ¬ (2 : Nat) = 0 by decide)
   ·have h1 : (c == 1) = g := congrArg (·.1) h0
    have h2 : t = l' := congrArg (·.2.1) h0
    rw [← h1, ← h2]
    by_cases hc : c = 1
    ·subst hc; rfl
    ·obtain rfl : c = 0 := by omega
     rfl
theorem bytesN_strB {l : List Nat} (h : OkB l) : bytesN (strB l) = l := by
 unfold bytesN strB
 simp only [List.map_map]
 have e : ∀ x ∈ l, (UInt8.toNat ∘ UInt8.ofNat) x = x := fun x hx => by
  show (UInt8.ofNat x).toNat = x
  rw [UInt8.toNat_ofNat']
  have := h x hx
  omega
 rw [List.map_congr_left e]
 simp
theorem strB_size (l : List Nat) : (strB l).size = l.length := by simp [strB, ByteArray.size]
theorem rT_b {l l' : List Nat} {m : Nat} {s : ByteArray} (hok : OkB l) (h : rT m (l, 0) = (s, (l', 0))) : l = textB s ++ l' ∧ s.size ≤ m := by
 obtain ⟨t, l1, h1, h2⟩ := bnd_ok h (fun _ => Sticks.ret _)
 have e1 : strB t = s := congrArg (·.1) h2
 have e2 : l1 = l' := congrArg (·.2.1) h2
 subst e2
 have h0 : getT m l = (t, l1, 0) := h1
 unfold getT at h0
 split at h0
 ·rename_i he
  exact absurd (congrArg (·.2.2) h0) he
 rename_i he
 split at h0
 ·exact absurd (congrArg (·.2.2) h0) (show ¬ (4 : Nat) = 0 by decide)
 rename_i hm
 split at h0
 ·exact absurd (congrArg (·.2.2) h0) (show ¬ (3 : Nat) = 0 by decide)
 rename_i hk
 have he0 : (getU 0 0 l).2.2 = 0 := by omega
 obtain ⟨n, u, hR⟩ : ∃ n u, getU 0 0 l = (n, u, 0) := ⟨(getU 0 0 l).1, (getU 0 0 l).2.1, Prod.ext rfl (Prod.ext rfl he0)⟩
 rw [hR] at h0 hm hk
 simp only at h0 hm hk
 have hb := getU_back hok hR
 have t1 : u.take n = t := congrArg (·.1) h0
 have t2 : u.drop n = l1 := congrArg (·.2.1) h0
 have hou : OkB u := fun x hx => hok x (by rw [hb]; exact List.mem_append_right _ hx)
 have hot : OkB t := by rw [← t1]; exact hou.take n
 have hl : t.length = n := by rw [← t1, List.length_take]; omega
 rw [← e1]
 refine ⟨?_, by rw [strB_size, hl]; omega⟩
 unfold textB
 rw [strB_size, hl, bytesN_strB hot, List.append_assoc, ← t1, ← t2, List.take_append_drop]
 exact hb
theorem rC_b {l l' : List Nat} {top n : Nat} (hok : OkB l) (h : rC top (l, 0) = (n, (l', 0))) : l = leb n ++ l' ∧ n ≤ top := by
 have h0 : getC top l = (n, l', 0) := h
 unfold getC at h0
 split at h0
 ·rename_i he
  exact absurd (congrArg (·.2.2) h0) he
 rename_i he
 split at h0
 ·exact absurd (congrArg (·.2.2) h0) (show ¬ (6 : Nat) = 0 by decide)
 rename_i hm
 have he0 : (getU 0 0 l).2.2 = 0 := by omega
 have h1 : (getU 0 0 l).1 = n := congrArg (·.1) h0
 have h2 : (getU 0 0 l).2.1 = l' := congrArg (·.2.1) h0
 exact ⟨getU_back hok (Prod.ext h1 (Prod.ext h2 he0)), by omega⟩
theorem OkB.behind {a b : List Nat} (h : OkB (a ++ b)) : OkB b := fun x hx => h x (List.mem_append_right _ hx)
theorem rL_b {mk mv : Nat} (hmk : mk ≤ 1048576) (hmv : mv ≤ 1048576) : ∀ (k : Nat) {l l' : List Nat} {ps : List Pr}, OkB l → rL mk mv k (l, 0) = (ps, (l', 0)) → ps.length = k ∧ l = labsB ps ++ l' ∧ FitL mk mv ps
 | 0, l, l', ps, _, h => by
   have h1 : [] = ps := congrArg (·.1) h
   have h2 : l = l' := congrArg (·.2.1) h
   subst h1; subst h2
   exact ⟨rfl, rfl, fun p hp => by cases hp⟩
 | k + 1, l, l', ps, hok, h => by
   rw [rL] at h
   obtain ⟨a, l1, h1, k1⟩ := bnd_ok h (fun _ => (rT_s mv).bnd fun _ => (rL_s mk mv k).bnd fun _ => Sticks.ret _)
   clear h
   try dsimp only at k1
   obtain ⟨rfl, ha⟩ := rT_b hok h1
   obtain ⟨b, l2, h2, k2⟩ := bnd_ok k1 (fun _ => (rL_s mk mv k).bnd fun _ => Sticks.ret _)
   clear k1
   try dsimp only at k2
   obtain ⟨rfl, hb⟩ := rT_b hok.behind h2
   obtain ⟨r, l3, h3, k3⟩ := bnd_ok k2 (fun _ => Sticks.ret _)
   clear k2
   obtain ⟨hl, rfl, hf⟩ := rL_b hmk hmv k hok.behind.behind h3
   have e1 : (a, b) :: r = ps := congrArg (·.1) k3
   have e2 : l3 = l' := congrArg (·.2.1) k3
   subst e1; subst e2
   refine ⟨by simp [hl], by simp [labsB], fun p hp => ?_⟩
   rcases List.mem_cons.1 hp with rfl | hp
   ·exact ⟨⟨ha, hb⟩, Nat.le_trans ha hmk, Nat.le_trans hb hmv⟩
   ·exact hf p hp
theorem evR_b {l l' : List Nat} {z : It} (hok : OkB l) (h : evR 12 8 8 16 (l, 0) = (z, (l', 0))) : z.g = false ∧ l = evB z ++ l' ∧ OkI z ∧ FitI 12 8 8 16 z := by
 unfold evR at h
 obtain ⟨o, l1, h1, k1⟩ := bnd_ok h (fun _ => rU_s.bnd fun _ => rU_s.bnd fun _ => (rT_s 12).bnd fun _ => (rLabs_s 8 8 16).bnd fun _ => rByte_s.bnd fun _ => rByte_s.bnd fun _ => rI_s.bnd fun _ => rByte_s.bnd fun _ => Sticks.ret _)
 clear h
 try dsimp only at k1
 have e1 := rByte_b h1
 subst e1
 have ok1 := hok.behind
 obtain ⟨q, l2, h2, k2⟩ := bnd_ok k1 (fun _ => rU_s.bnd fun _ => (rT_s 12).bnd fun _ => (rLabs_s 8 8 16).bnd fun _ => rByte_s.bnd fun _ => rByte_s.bnd fun _ => rI_s.bnd fun _ => rByte_s.bnd fun _ => Sticks.ret _)
 clear k1
 try dsimp only at k2
 obtain ⟨rfl, b2⟩ := rU_b ok1 h2
 have ok2 := ok1.behind
 obtain ⟨t, l3, h3, k3⟩ := bnd_ok k2 (fun _ => (rT_s 12).bnd fun _ => (rLabs_s 8 8 16).bnd fun _ => rByte_s.bnd fun _ => rByte_s.bnd fun _ => rI_s.bnd fun _ => rByte_s.bnd fun _ => Sticks.ret _)
 clear k2
 try dsimp only at k3
 obtain ⟨rfl, b3⟩ := rU_b ok2 h3
 have ok3 := ok2.behind
 obtain ⟨r, l4, h4, k4⟩ := bnd_ok k3 (fun _ => (rLabs_s 8 8 16).bnd fun _ => rByte_s.bnd fun _ => rByte_s.bnd fun _ => rI_s.bnd fun _ => rByte_s.bnd fun _ => Sticks.ret _)
 clear k3
 try dsimp only at k4
 obtain ⟨rfl, b4⟩ := rT_b ok3 h4
 have ok4 := ok3.behind
 obtain ⟨ps, l5, h5, k5⟩ := bnd_ok k4 (fun _ => rByte_s.bnd fun _ => rByte_s.bnd fun _ => rI_s.bnd fun _ => rByte_s.bnd fun _ => Sticks.ret _)
 clear k4
 try dsimp only at k5
 obtain ⟨k, lk, hk, h5'⟩ := bnd_ok h5 (fun n => rL_s 8 16 n)
 obtain ⟨rfl, bk⟩ := rC_b ok4 hk
 obtain ⟨hlen, rfl, b5⟩ := rL_b (by decide) (by decide) k ok4.behind h5'
 have ok5 := ok4.behind.behind
 obtain ⟨s, l6, h6, k6⟩ := bnd_ok k5 (fun _ => rByte_s.bnd fun _ => rI_s.bnd fun _ => rByte_s.bnd fun _ => Sticks.ret _)
 clear k5
 try dsimp only at k6
 have e6 := rByte_b h6
 subst e6
 have ok6 := ok5.behind
 obtain ⟨p, l7, h7, k7⟩ := bnd_ok k6 (fun _ => rI_s.bnd fun _ => rByte_s.bnd fun _ => Sticks.ret _)
 clear k6
 try dsimp only at k7
 have e7 := rByte_b h7
 subst e7
 have ok7 := ok6.behind
 obtain ⟨v, l8, h8, k8⟩ := bnd_ok k7 (fun _ => rByte_s.bnd fun _ => Sticks.ret _)
 clear k7
 try dsimp only at k8
 obtain ⟨rfl, b8, b8'⟩ := rI_b ok7 h8
 have ok8 := ok7.behind
 obtain ⟨w, l9, h9, k9⟩ := bnd_ok k8 (fun _ => Sticks.ret _)
 clear k8
 have e9 := rByte_b h9
 subst e9
 have e1 : (⟨false, o, q, t, r, ps, s, p, v, w, 0, 0, 0⟩ : It) = z := congrArg (·.1) k9
 have e2 : l9 = l' := congrArg (·.2.1) k9
 subst e1; subst e2
 have bo : o < 256 := hok o (by simp)
 have bs : s < 256 := ok5 s (by simp)
 have bp : p < 256 := ok6 p (by simp)
 have bw : w < 256 := ok8 w (by simp)
 refine ⟨rfl, ?_, ⟨bo, b2, b3, by show r.size ≤ _; unfold maxLen; omega, fun i pr hi => ?_, bs, bp, b8, b8', bw, by simp, by simp, by simp⟩, ⟨b4, by show r.size ≤ _; omega, by show ps.length ≤ _; omega, by show ps.length ≤ _; omega, b5⟩⟩
 ·rw [evB_right]
  simp only [hlen, List.append_assoc, List.nil_append]
 ·obtain ⟨_, hp⟩ := b5 pr (List.mem_iff_getElem?.2 ⟨i, hi⟩)
  unfold maxLen
  omega
theorem gapR_b {l l' : List Nat} {z : It} (hok : OkB l) (h : gapR (l, 0) = (z, (l', 0))) : z.g = true ∧ l = gapB z ++ l' ∧ OkI z := by
 unfold gapR at h
 obtain ⟨o, l1, h1, k1⟩ := bnd_ok h (fun _ => rU_s.bnd fun _ => rU_s.bnd fun _ => Sticks.ret _)
 clear h
 try dsimp only at k1
 have e1 := rByte_b h1
 subst e1
 have ok1 := hok.behind
 obtain ⟨q, l2, h2, k2⟩ := bnd_ok k1 (fun _ => rU_s.bnd fun _ => Sticks.ret _)
 clear k1
 try dsimp only at k2
 obtain ⟨rfl, b2⟩ := rU_b ok1 h2
 have ok2 := ok1.behind
 obtain ⟨t, l3, h3, k3⟩ := bnd_ok k2 (fun _ => Sticks.ret _)
 clear k2
 try dsimp only at k3
 obtain ⟨rfl, b3⟩ := rU_b ok2 h3
 have e1 : (⟨true, 0, 0, 0, ⟨#[]⟩, [], 0, 0, 0, 0, o, q, t⟩ : It) = z := congrArg (·.1) k3
 have e2 : l3 = l' := congrArg (·.2.1) k3
 subst e1; subst e2
 have bo : o < 256 := hok o (by simp)
 refine ⟨rfl, ?_, ⟨by simp, by simp, by simp, (show (⟨#[]⟩ : ByteArray).size ≤ _ by decide), (fun i p h => by simp at h), by simp, by simp, by simp, by simp, by simp, bo, b2, b3⟩⟩
 rw [gapB_right]
 simp only [List.append_assoc, List.nil_append]
theorem takeR_b {l l' : List Nat} {z : It} (hok : OkB l) (h : takeR (l, 0) = (z, (l', 0))) : itemN z = 0 ∧ l = itemB z ++ l' ∧ OkI z ∧ (z.g = false → FitI 12 8 8 16 z) := by
 obtain ⟨a, l1, h1, h2⟩ := bnd_ok h chkR_s
 have h3 : (if itemN a = 0 then (a, (l1, 0)) else (zeroI, ([], itemN a))) = (z, (l', 0)) := by
  have e : chkR a (l1, 0) = if itemN a = 0 then (a, (l1, 0)) else (zeroI, ([], itemN a)) := by simp [chkR]
  rw [← e]; exact h2
 by_cases hn : itemN a = 0
 ·rw [if_pos hn] at h3
  have e1 : a = z := congrArg (·.1) h3
  have e2 : l1 = l' := congrArg (·.2.1) h3
  subst e1; subst e2
  obtain ⟨g, l2, h4, h5⟩ := bnd_ok h1 (itG_s 12 8 8 16)
  have e := rB_b h4
  subst e
  have ok := hok.behind
  cases g with
  | true =>
    obtain ⟨hg, rfl, hx⟩ := gapR_b ok h5
    refine ⟨hn, ?_, hx, fun h => by rw [hg] at h; cases h⟩
    rw [itemB_right, hg]; simp
  | false =>
    obtain ⟨hg, rfl, hx, hf⟩ := evR_b ok h5
    refine ⟨hn, ?_, hx, fun _ => hf⟩
    rw [itemB_right, hg]; simp
 ·rw [if_neg hn] at h3
  exact absurd (congrArg (·.2.2) h3) hn
end Go.Proofs.YtholdcgkhicdmaaGreatDoor