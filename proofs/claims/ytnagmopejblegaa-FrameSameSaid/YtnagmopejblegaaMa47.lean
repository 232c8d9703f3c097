/- Several texts in one: FrAwake, ItApp. -/
import Derived.Test.YtnagmopejblegaaMa4
import Derived.Test.YtnagmopejblegaaMa5
import Derived.Test.YtnagmopejblegaaMa6
import Derived.Test.YtnagmopejblegaaMa29
import Derived.Test.YtnagmopejblegaaMa31
import Derived.Test.YtnagmopejblegaaMa35
/- Layer 5: the fixed fact that each statement begins with. -/
namespace Go.Proofs.Ytnagmopejblegaa
open Go.RowKit

theorem own_posF {W : World} {base : Nat} {e : TypeId} {n : Nat} {v : Value} {xs : List Value} (h : W.ownsRow base e 1 v n xs) (hn : 0 < n) : ∃ b c, v = .slice (some ⟨b, 0, none⟩) n c ∧ n ≤ c ∧ base ≤ b := by
  rcases h.2 with ⟨rfl, rfl⟩ | ⟨g, cap, cur, rfl, hg, _, hc, _⟩
  · omega
  · exact ⟨_, _, rfl, hc, hg⟩
/-- the frame of the fixed fact -/
def aliveF : Fr := ⟨3, 2, 1, 0, 0, zeroI, 0, 0, 0⟩
theorem aliveF_body : bodyF aliveF = [183, 3, 2, 1] := by decide +kernel
theorem aliveF_ok : OkF aliveF := by
  refine ⟨?_, ?_, ?_, ?_, ?_, ?_, ?_, ?_, ?_⟩ <;> first | exact OkI.zero | decide
theorem aliveF_short : ShortF aliveF := by
  refine ⟨⟨by decide, fun i p h => by cases h⟩, by decide, by decide +kernel⟩
theorem aliveF_right : frameN aliveF = 0 := by decide +kernel

set_option maxRecDepth 100000 in
set_option maxHeartbeats 4000000 in
theorem fawake_any (w : World) :
    Calls Try.prog 6 #[] w fun e w' => e = .returned (.bool true) ∧ Below w.heap.size w w' := by
  have Hn := Lib.hid (new_any w)
  go_enter Try.func6, Try.ntmps6
  go_wp2_with fail
  refine Hn.out.mono ?_
  rintro e w1 ⟨rfl, hb1, hsz1, hT1⟩
  have HT1 := Lib.hid hT1
  have Hsz := Lib.hid hsz1
  have Hb1 := Lib.hid hb1
  clear hT1 hsz1 hb1 Hn
  go_wp2_with fail
  refine (fencode_any w.heap.size 0 0 0 (by decide) aliveF none 0 0 aliveF_ok aliveF_short aliveF_right rfl w1 HT1.out (by decide) (by decide) RdP.none_).mono ?_
  rintro e w2 ⟨v2, rfl, ho, ht2, _⟩
  rw [aliveF_body] at ho
  obtain ⟨b, c, rfl, hc, hb⟩ := own_posF ho (by decide)
  have Hb2 := Lib.hid (Hb1.out.grown ht2.grown (by have := Hb1.out.size; omega) (fun k hk => by cases hk; exact Nat.le_refl _))
  have hrd : RdB w2 w2.heap.size (some ⟨b, 0, none⟩) [183, 3, 2, 1] := (RdB.of_own ho).take 4
  have hcv := conv_any (A := some ⟨b, 0, none⟩) (n := 4) (c := c) (l := [183, 3, 2, 1]) hrd rfl (fun e => by cases e)
  have hs : strB [183, 3, 2, 1] = ⟨#[183, 3, 2, 1]⟩ := rfl
  rw [hs] at hcv
  have hc4 : (4 : Int) ≤ c := by omega
  clear ho hrd hs ht2 hc hb
  go_wp2
  go_ret
  exact ⟨rfl, Hb2.out⟩
end Go.Proofs.Ytnagmopejblegaa
/- A row of bytes that is appended to, and rows that wait to be appended: in plain regions and in those that draw. -/
namespace Go.Proofs.Ytnagmopejblegaa
open Go.RowKit

/-- the row v of the bytes l is newer than W; all else of W is as it was -/
structure Rows2 (W V : World) (v : Value) (l : List Nat) : Prop where
  bl : Below W.heap.size W V
  ow : V.ownsRow W.heap.size 5 1 v l.length (cellsB l)
/-- a row that waits -/
def Pend (W V : World) (v u : Value) (s : List Nat) : Prop := V.ownsRow W.heap.size 5 1 u s.length (cellsB s) ∧ (u.ownBlock = none ∨ u.ownBlock ≠ v.ownBlock)
section
variable {W V V' : World} {v v' u u2 : Value} {l s s2 : List Nat}
theorem Rows2.call (h : Rows2 W V v l) (hb : Below V.heap.size V V') : Rows2 W V' v l := ⟨h.bl.trans (hb.mono h.bl.size), own_below h.ow hb⟩
theorem Pend.call (h : Pend W V v u s) (hb : Below V.heap.size V V') : Pend W V' v u s := ⟨own_below h.1 hb, h.2⟩
theorem Pend.new {n : Nat} (h : Rows2 W V v l) (ho : V'.ownsRow V.heap.size 5 1 u n (cellsB s)) (hn : n = s.length) : Pend W V' v u s := by
  subst hn
  refine ⟨ownB_mono ho h.bl.size, ?_⟩
  cases hu : u.ownBlock with
  | none => exact .inl rfl
  | some k =>
    refine .inr fun e => ?_
    have h1 := (ho.lt k hu).1
    have h2 := (h.ow.lt k e.symm).2
    omega
theorem Rows2.app {m : Nat} (h : Rows2 W V v l) (hm : m = s.length) (ho : V'.ownsRow W.heap.size 5 1 v' (l.length + m) (cellsB l ++ cellsB s)) (hg : V.grownBy V' v.ownBlock) : Rows2 W V' v' (l ++ s) :=
  ⟨h.bl.grown hg h.bl.size (fun k e => (h.ow.lt k e).1), by rw [cellsB_append, List.length_append, ← hm]; exact ho⟩
theorem Pend.app (hp : Pend W V v u2 s2) (hg : V.grownBy V' v.ownBlock) (hb : v'.ownBlock = v.ownBlock ∨ v'.ownBlock = some V.heap.size) : Pend W V' v' u2 s2 := by
  refine ⟨hp.1.kept hg hp.2, ?_⟩
  cases hu : u2.ownBlock with
  | none => exact .inl rfl
  | some k =>
    refine .inr fun e => ?_
    rcases hb with h1 | h1
    · rcases hp.2 with h2 | h2
      · rw [hu] at h2; cases h2
      · exact h2 (by rw [hu, e, h1])
    · have h3 := (hp.1.lt k hu).2
      rw [h1] at e
      injection e with e
      omega
theorem Pend.slice (h : Pend W V v u s) : ∃ A c, u = .slice A s.length c := ownB_slice h.1
theorem Rows2.slice (h : Rows2 W V v l) : ∃ A c, v = .slice A l.length c := ownB_slice h.ow
theorem own_full (w : World) (cs : Array Value) (xs : List Value) (n base : Nat) (e : TypeId) (hb : base ≤ w.heap.size) (hc : cs.toList = xs) (hn : xs.length = n) (hm : n ≤ maxLen) : (w.alloc (.cells cs e)).ownsRow base e 1 (.slice (some ⟨w.heap.size, 0, none⟩) n n) n xs := by
  have hs : cs.size = n := by rw [← hn, ← hc]; simp
  exact ⟨by omega, .inr ⟨w.heap.size, n, cs, rfl, hb, heap_alloc_new w _, Nat.le_refl _, hm, by omega, by rw [hc, Nat.mul_one, ← hn, List.take_length]⟩⟩
/-- a literal's row -/
theorem Rows2.made (W : World) (cs : Array Value) (n : Nat) (hc : cs.toList = cellsB l) (hn : n = l.length) (hm : n ≤ 4000000) : Rows2 W (W.alloc (.cells cs 5)) (.slice (some ⟨W.heap.size, 0, none⟩) n n) l := by
  subst hn
  exact ⟨(Below.refl _ _).alloc (Nat.le_refl _) _, own_full W cs (cellsB l) l.length W.heap.size _ (Nat.le_refl _) hc (cellsB_length l) (by unfold maxLen; omega)⟩
theorem Pend.made (h : Rows2 W V v l) (cs : Array Value) (n : Nat) (hc : cs.toList = cellsB s) (hn : n = s.length) (hm : n ≤ 4000000) : Pend W (V.alloc (.cells cs 5)) v (.slice (some ⟨V.heap.size, 0, none⟩) n n) s := by
  subst hn
  exact Pend.new h (own_full V cs (cellsB s) s.length V.heap.size _ (Nat.le_refl _) hc (cellsB_length s) (by unfold maxLen; omega)) rfl

theorem step_row {ops : Array Oper} {o : Oper} {a : Act} {K : Act → World → Prop} {Q : Exit → Act → World → Prop} {E : Prop} {A : Option Addr} {c m : Nat} (hgd : o.guard = none) (p q : Operand)
    (ho : o.op = .call { callee := .builtin .append, args := #[p, q], argTypes := #[31, 31] })
    (hR : Rows2 W V v l) (hP : Pend W V v (.slice A m c) s) (hm : m = s.length) (hv : a.eval p = v) (hx : a.eval q = .slice A m c) (hbd : l.length + s.length ≤ 4000000)
    (h : ∀ v' V', Rows2 W V' v' (l ++ s) → V.grownBy V' v.ownBlock → (v'.ownBlock = v.ownBlock ∨ v'.ownBlock = some V.heap.size) → K (a.put o.dst v') V') :
    if Region.wanted o (yielded ops a.tmps) = true then Oper.wp Try.prog o a V K Q else E := by
  subst hm
  obtain ⟨i0, hi, hz0, hz1, hz2⟩ := info_parts Try.infoB
  refine step_append_src (base := W.heap.size) hgd p q ho Try.underlying31 hi hz0 hz1 hz2 rfl (by decide) hv hR.ow hx (src_of_rdB (RdB.of_own hP.1) rfl) (cellsB_one _) (by unfold maxLen; omega) (by omega) hR.bl.size fun v' w' h1 h2 h3 => ?_
  exact h v' w' (hR.app rfl h1 h2) h2 h3
theorem wpList_row {ops : Array Oper} {rest : List Oper} {o : Oper} {a : Act} {Q : Exit → Act → World → Prop} {A : Option Addr} {c m : Nat} (hgd : o.guard = none) (p q : Operand)
    (ho : o.op = .call { callee := .builtin .append, args := #[p, q], argTypes := #[31, 31] })
    (hR : Rows2 W V v l) (hP : Pend W V v (.slice A m c) s) (hm : m = s.length) (hv : a.eval p = v) (hx : a.eval q = .slice A m c) (hbd : l.length + s.length ≤ 4000000)
    (h : ∀ v' V', Rows2 W V' v' (l ++ s) → V.grownBy V' v.ownBlock → (v'.ownBlock = v.ownBlock ∨ v'.ownBlock = some V.heap.size) → wpList Try.prog ops Q rest (a.put o.dst v') V') : wpList Try.prog ops Q (o :: rest) a V := by
  subst hm
  obtain ⟨i0, hi, hz0, hz1, hz2⟩ := info_parts Try.infoB
  refine wpList_append_src (base := W.heap.size) hgd p q ho Try.underlying31 hi hz0 hz1 hz2 rfl (by decide) hv hR.ow hx (src_of_rdB (RdB.of_own hP.1) rfl) (cellsB_one _) (by unfold maxLen; omega) (by omega) hR.bl.size fun v' w' h1 h2 h3 => ?_
  exact h v' w' (hR.app rfl h1 h2) h2 h3
end
end Go.Proofs.Ytnagmopejblegaa
