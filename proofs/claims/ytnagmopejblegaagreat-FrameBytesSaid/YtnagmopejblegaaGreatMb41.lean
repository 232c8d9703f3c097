/- Several texts in one: ItSpan, ItClone, ItTrim, ItDec, CrcUnseal. -/
import Derived.BigQuiet
import Derived.Deep.RegionWith
import Derived.Deep.QuietTactic
import Derived.Laws.Cover3
import Derived.Test.YtnagmopejblegaaGreatMb5
import Derived.Test.YtnagmopejblegaaGreatMb13
import Derived.Test.YtnagmopejblegaaGreatMb26
import Derived.Test.YtnagmopejblegaaGreatMb27
import Derived.Test.YtnagmopejblegaaGreatMb29
import Derived.Test.YtnagmopejblegaaGreatMb35
import Derived.Test.YtnagmopejblegaaGreatMb38
/- Layer 4: item.Span, item.Lasts; the document's Span. -/
namespace Go.Proofs.YtnagmopejblegaaGreat
open Go.RowKit

def spO (x : It) : Nat := if x.g then x.ga else x.o
def spF (x : It) : Nat := if x.g then x.gf else x.q
def spT (x : It) : Nat := if x.g then x.gt else x.q

def lastB (x : It) : Bool := x.g || decide (0 < x.w)
end Go.Proofs.YtnagmopejblegaaGreat
/- Layer 4: item.Clone. -/
namespace Go.Proofs.YtnagmopejblegaaGreat
open Go.RowKit

end Go.Proofs.YtnagmopejblegaaGreat
/- Layer 4: item.Trim; the document's Above. -/
namespace Go.Proofs.YtnagmopejblegaaGreat
open Go.RowKit

theorem results_cell_two {P : Program} {fn : Func} {p q : Tmp} {ty : TypeId} {v : Value} (h : fn.results = #[.cell p ty, .tmp q]) (tmps : Array Value) (w : World) (g : Nat) (t : TypeId) (cs : Array Value) (fr : Nat × Nat) (d : TypeDesc)
    (hp : tmps.getD p undef = .pointer (some ⟨g, 0, none⟩)) (hq : tmps.getD q undef = v) (hg : w.heap[g]? = some (.cells cs t fr))
    (hu : P.underlying ty = some d) (hd : (match d with | .struct _ | .array _ _ => true | _ => false) = true) (hi : (P.info? ty).map (·.size) = some cs.size) :
    (results fn tmps).run P w = .ok (.tuple #[.agg cs, v]) w := by
  have hp' : tmps[p]?.getD undef = .pointer (some ⟨g, 0, none⟩) := by simpa using hp
  have hq' : tmps[q]?.getD undef = v := by simpa using hq
  simp [results, h, hp', hq', asAddr, run_loadVar_row w g t ty cs fr d hg hu hd hi]

theorem RdP.nil {w : World} {B : Nat} {A : Option Addr} : RdP w B A [] := fun h => absurd h (by simp)
/-- an item and a yes or no -/
def TwoRet (y : It) (b : Bool) (w : World) (e : Ending) (w' : World) : Prop :=
  ∃ A n c, e = .returned (.tuple #[.agg #[.bool y.g, .int .u8 y.o, .int .u64 y.q, .int .u64 y.t, .string y.r, .slice A n c, .int .u8 y.s, .int .u8 y.p, .int .i64 y.v, .int .u8 y.w, .int .u8 y.ga, .int .u64 y.gf, .int .u64 y.gt], .bool b]) ∧ n = y.l.length ∧ RdP w' w'.heap.size A y.l ∧ Below w.heap.size w w'

def trimI (x : It) (N : Nat) : It := if spT x ≤ N then zeroI else if N < spF x then x else ⟨true, 0, 0, 0, ⟨#[]⟩, [], 0, 0, 0, 0, spO x, N + 1, spT x⟩
def aboveI (x : It) (N : Nat) : It := if spT x ≤ N then zeroI else if spF x ≤ N then { x with gf := N + 1 } else x
def aboveB (x : It) (N : Nat) : Bool := decide (¬ spT x ≤ N)

theorem trim_above (x : It) (N : Nat) : sameI (trimI x N) (aboveI x N) = true := by
  unfold trimI aboveI
  by_cases h1 : spT x ≤ N
  · rw [if_pos h1, if_pos h1]; exact sameI_refl _
  · rw [if_neg h1, if_neg h1]
    by_cases h2 : N < spF x
    · rw [if_pos h2, if_neg (by omega)]; exact sameI_refl _
    · rw [if_neg h2, if_pos (by omega)]
      cases hg : x.g with
      | true =>
        unfold sameI sameG spO spT
        simp [hg]
      | false =>
        unfold spT at h1
        unfold spF at h2
        rw [hg] at h1 h2
        simp at h1 h2
        omega
theorem spT_lt {x : It} (h : OkI x) : spT x < 18446744073709551616 := by
  have h1 := h.gt
  have h2 := h.q
  unfold spT
  split <;> omega

end Go.Proofs.YtnagmopejblegaaGreat
/- Layer 4: item.Decode. -/
namespace Go.Proofs.YtnagmopejblegaaGreat
open Go.RowKit

/-- the error of bytes as an item, and the item -/
def endE (s : St) : Nat := if s.2 = 0 then (if s.1 = [] then 0 else 25) else s.2
def decE (l : List Nat) : Nat := endE (takeR (l, 0)).2
def decI (l : List Nat) : It := if decE l = 0 then (takeR (l, 0)).1 else zeroI
theorem tk_done (g : Nat) (s : St) (w : World) (h : RdT w g s) :
    Calls Tryz.prog 24 #[.pointer (some ⟨g, 0, none⟩)] w fun e w' => e = .returned (.int .i64 (endE s : Nat)) ∧ w.grownBy w' (some g) := by
  obtain ⟨l, er⟩ := s
  unfold endE
  by_cases he : er = 0
  · subst he
    cases l with
    | nil =>
      refine (rdone_empty g 0 w h).mono ?_
      rintro e w' ⟨rfl, rfl⟩
      exact ⟨rfl, World.grownBy.refl w _⟩
    | cons x l =>
      refine (rdone_rest g (x :: l) (by simp) w h).mono ?_
      rintro e w' ⟨rfl, _, h3⟩
      exact ⟨by simp, h3⟩
  · obtain rfl : l = [] := h.bare he
    refine (rdone_empty g (er : Nat) w h).mono ?_
    rintro e w' ⟨rfl, rfl⟩
    exact ⟨by simp [he], World.grownBy.refl w _⟩
def DecRet (y : It) (er : Nat) (w : World) (e : Ending) (w' : World) : Prop :=
  ∃ A n c, e = .returned (.tuple #[.agg #[.bool y.g, .int .u8 y.o, .int .u64 y.q, .int .u64 y.t, .string y.r, .slice A n c, .int .u8 y.s, .int .u8 y.p, .int .i64 y.v, .int .u8 y.w, .int .u8 y.ga, .int .u64 y.gf, .int .u64 y.gt], .int .i64 (er : Nat)]) ∧ n = y.l.length ∧ w'.ownsRow w.heap.size 98 2 (.slice A n c) n (cellsP y.l) ∧ Below w.heap.size w w'

end Go.Proofs.YtnagmopejblegaaGreat
/- Layer 2: (*Table).Open. -/
namespace Go.Proofs.YtnagmopejblegaaGreat
open Go.RowKit

set_option maxHeartbeats 400000 in
theorem open_nil (v : Value) (w : World) :
    Calls Tryz.prog 21 #[.pointer none, v] w fun e w' => e = .returned (.tuple #[.slice none 0 0, .bool false]) ∧ w = w' := by
  go_enter Tryz.func21, Tryz.ntmps21
  go_wp2
  go_ret2
  exact ⟨rfl, rfl⟩
set_option maxHeartbeats 400000 in
theorem open_short (g : Nat) (A : Option Addr) (n c : Nat) (hn : n < 4) (w : World) :
    Calls Tryz.prog 21 #[.pointer (some ⟨g, 0, none⟩), .slice A n c] w fun e w' => e = .returned (.tuple #[.slice none 0 0, .bool false]) ∧ w = w' := by
  have h4 : decide ((n : Int) < 4) = true := decide_eq_true (by omega)
  go_enter Tryz.func21, Tryz.ntmps21
  go_wp2
  go_ret2
  exact ⟨rfl, rfl⟩

set_option maxRecDepth 100000 in
set_option maxHeartbeats 2000000 in
theorem open_any (g d s t : Nat) (hd : d ≤ 1) (b o k c : Nat) (l : List Nat) (x0 x1 x2 x3 : Nat) (okb : Bool) (B : Nat) (w : World) (h : Tab w g d s t) (hn : k = l.length) (hm : k ≤ 1048576) (hc : k + 4 ≤ c) (hs : s < 18446744073709551615) (hbn : t + k < 18446744073709551616)
    (hr : RdB w B (some ⟨b, o, none⟩) (l ++ [x0, x1, x2, x3])) (hB : B ≤ w.heap.size) (hok : OkB l) (hok4 : OkB [x0, x1, x2, x3]) (hbg : b ≠ g) (hyes : (sumN l == takeN [x0, x1, x2, x3]) = okb) :
    Calls Tryz.prog 21 #[.pointer (some ⟨g, 0, none⟩), .slice (some ⟨b, o, none⟩) (k + 4 : Nat) c] w fun e w' => ∃ v, e = .returned (.tuple #[v, .bool okb]) ∧ w'.ownsRow w.heap.size 5 1 v (if okb then k else 0) (cellsB (if okb then l else [])) ∧ TurnsIn w w' g (fun _ => True) ∧ Tab w' g 1 (s + 1) (t + k) := by
  have h4 : decide (((k + 4 : Nat) : Int) < 4) = false := decide_eq_false (by omega)
  obtain ⟨b', o', e, hb, hcl⟩ := hr (by simp)
  obtain ⟨rfl, rfl⟩ : b = b' ∧ o = o' := by injection e with e; injection e with e1 e2; exact ⟨e1, e2⟩
  clear e
  have hin : RdB w B (some ⟨b, o, none⟩) l := fun _ => ⟨b, o, rfl, hb, fun i x hx => hcl i x (by rw [List.getElem?_append_left (List.getElem?_eq_some_iff.1 hx).1]; exact hx)⟩
  have at4 : ∀ (j x : Nat), [x0, x1, x2, x3][j]? = some x → w.cell? ⟨b, o + k + j, none⟩ = some (.int .u8 x) := fun j x hx => by
    have := hcl (k + j) x (by rw [List.getElem?_append_right (by omega), hn, Nat.add_sub_cancel_left]; exact hx)
    rwa [← Nat.add_assoc] at this
  have c0 : w.cell? ⟨b, o + k, none⟩ = some (.int .u8 x0) := at4 0 _ rfl
  have c1 := at4 1 _ rfl
  have c2 := at4 2 _ rfl
  have c3 := at4 3 _ rfl
  have Hin := Lib.hid hin
  have Hn := Lib.hid hn
  have HT := Lib.hid h
  have Hok := Lib.hid hok
  have Ht : Hid (∀ w : World, Calls Tryz.prog 38 #[.agg #[.int .u8 x0, .int .u8 x1, .int .u8 x2, .int .u8 x3]] w fun e w' => e = .returned (.int .u32 (takeN [x0, x1, x2, x3] : Nat)) ∧ w' = w.alloc (.cells #[.int .u8 x0, .int .u8 x1, .int .u8 x2, .int .u8 x3] 78)) := fun w => take_eq [x0, x1, x2, x3] rfl hok4 w
  have Hyes := Lib.hid hyes
  clear hr hcl at4 hin hn h hok hyes
  have w1 : IntKind.i64.wrap (((k + 4 : Nat) : Int) - 4) = (k : Int) := by rw [IntKind.wrap_i64]; omega
  go_enter Tryz.func21, Tryz.ntmps21
  go_wp2
  go_quiet (fail)
  go_wp2
  clear w1 h4
  have hbw : Below w.heap.size w (w.drewN nq) := ⟨rfl, rfl, rfl, Nat.le_refl _, fun _ _ => rfl⟩
  have c0 : (w.drewN nq).cell? ⟨b, o + k, none⟩ = some (.int .u8 x0) := c0
  have c1 : (w.drewN nq).cell? ⟨b, o + k + 1, none⟩ = some (.int .u8 x1) := c1
  have c2 : (w.drewN nq).cell? ⟨b, o + k + 2, none⟩ = some (.int .u8 x2) := c2
  have c3 : (w.drewN nq).cell? ⟨b, o + k + 3, none⟩ = some (.int .u8 x3) := c3
  have hsz : (w.drewN nq).heap.size = w.heap.size := rfl
  have Hsz := Lib.hid hsz
  clear hsz
  generalize w.drewN nq = wa at *
  have hba : b < wa.heap.size := by have := Hsz.out; omega
  have HTa := Lib.hid (HT.out.below hbw)
  have hga := HTa.out.lt
  have hW : Below wa.heap.size wa (wa.alloc (.cells #[.slice (some ⟨b, o, none⟩) k c] 22)).drew := ((Below.refl _ _).alloc (Nat.le_refl _) _).drew
  have hsum := tsum_any g d s t wa.heap.size hd (some ⟨b, o, none⟩) k c l B (wa.alloc (.cells #[.slice (some ⟨b, o, none⟩) k c] 22)).drew (HTa.out.below hW) Hn.out (by unfold maxLen; omega) hs hbn ((Hin.out.below (hbw.mono hB)).below (hW.mono (by have := Hsz.out; omega))) Hok.out (by intro _ a ha; cases ha; exact hbg) (by omega) (by rw [World.cell?_drew, World.cell?_alloc_at _ _ _ _ rfl]; rfl)
  have HS : Hid (Calls Tryz.prog 19 #[.pointer (some ⟨g, 0, none⟩), .slice (some ⟨wa.heap.size, 0, none⟩) 1 1] (wa.alloc (.cells #[.slice (some ⟨b, o, none⟩) k c] 22)).drew fun e w' => e = .returned (.int .u32 (sumN l : Nat)) ∧ (TurnsIn wa w' g (fun _ => True) ∧ Tab w' g 1 (s + 1) (t + k)) ∧ b < w'.heap.size ∧ w'.cell? ⟨b, o + k, none⟩ = some (.int .u8 x0) ∧ w'.cell? ⟨b, o + k + 1, none⟩ = some (.int .u8 x1) ∧ w'.cell? ⟨b, o + k + 2, none⟩ = some (.int .u8 x2) ∧ w'.cell? ⟨b, o + k + 3, none⟩ = some (.int .u8 x3)) :=
    hsum.mono fun e w' ⟨he, ht, hT⟩ => by
      have ht2 := (TurnsIn.of_below (P := fun _ => True) hga hW).trans ht
      have hne : some b ≠ some g := fun e => hbg (by injection e)
      exact ⟨he, ⟨ht2, hT⟩, Nat.lt_of_lt_of_le hba ht2.grown.size, ht2.grown.cell c0 hne, ht2.grown.cell c1 hne, ht2.grown.cell c2 hne, ht2.grown.cell c3 hne⟩
  have hat : ∀ (w : World) (a : Option Addr) (c : Nat), (Instr.arrayAt 78 (.slice a 4 c)).run Tryz.prog w = .ok (.pointer a) w := fun w a c => run_arrayAt w 78 _ 4 a 4 c Tryz.underlying78 (Nat.le_refl _)
  have HB := Lib.hid hB
  have Hm := Lib.hid hm
  clear hsum hW hok4 hB hb hs hbn hm hd
  go_region_with (first
    | (go_at_call 19; (with_reducible refine HS.out.mono ?_); rintro e w2 ⟨rfl, hT2, hb2, k0, k1, k2, k3⟩; replace hT2 := Lib.hid hT2)
    | (go_at_call 38; (with_reducible refine (Ht.out _).mono ?_); rintro e w3 ⟨rfl, rfl⟩))
  all_goals (
    have HTz := Lib.hid hT2.out
    clear hT2 k0 k1 k2 k3 c0 c1 c2 c3 hat)
  all_goals (
    cases okb with
    | false =>
      have hne : (((sumN l : Nat) : Int) != ((takeN [x0, x1, x2, x3] : Nat) : Int)) = true := by
        have h := Hyes.out
        rw [beq_eq_false_iff_ne] at h
        rw [bne_iff_ne]
        omega
      go_wp2
      go_ret2
      refine ⟨_, rfl, World.ownsRow_nil _ _ _ _, ?_, ?_⟩
      · exact (TurnsIn.of_below HT.out.lt hbw).trans (HTz.out.1.trans (TurnsIn.of_below HTz.out.2.lt (by repeat (first | exact Below.refl _ _ | refine RowKit.Below.drew ?_ | refine RowKit.Below.alloc ?_ (by simp <;> omega) _))))
      · exact HTz.out.2.below (by repeat (first | exact Below.refl _ _ | refine RowKit.Below.drew ?_ | refine RowKit.Below.alloc ?_ (by simp <;> omega) _))
    | true =>
      have hne : (((sumN l : Nat) : Int) != ((takeN [x0, x1, x2, x3] : Nat) : Int)) = false := by
        have h := Hyes.out
        rw [beq_iff_eq] at h
        rw [bne_eq_false_iff_eq]
        omega
      have hsz2 := HTz.out.1.grown.size
      have hr2 := ((Hin.out.below (hbw.mono HB.out)).turned (by intro _ a ha; cases ha; exact hbg) HTz.out.1).more (show B ≤ w2.heap.size by have := HB.out; have := Hsz.out; omega)
      have Hr2 := Lib.hid hr2
      clear hr2
      go_wp2_with fail
      refine (bclone_any (some ⟨b, o, none⟩) k c l _ w2.heap.size Hn.out (fun h => by cases h) (by have := Hm.out; omega) (Hr2.out.below (by repeat (first | exact Below.refl _ _ | refine RowKit.Below.drew ?_ | refine RowKit.Below.alloc ?_ (by simp <;> omega) _))) (by simp <;> omega)).mono ?_
      rintro e w5 ⟨v5, rfl, hown5, hb5⟩
      have hb4 := HTz.out.2.below (w' := w5) ((show Below w2.heap.size w2 _ by repeat (first | exact Below.refl _ _ | refine RowKit.Below.drew ?_ | refine RowKit.Below.alloc ?_ (by simp <;> omega) _)).trans (hb5.mono (by simp <;> omega)))
      have ht5 := TurnsIn.of_below (P := fun _ => True) HTz.out.2.lt ((show Below w2.heap.size w2 _ by repeat (first | exact Below.refl _ _ | refine RowKit.Below.drew ?_ | refine RowKit.Below.alloc ?_ (by simp <;> omega) _)).trans (hb5.mono (by simp <;> omega)))
      have Hown5 := Lib.hid hown5
      clear hown5
      go_wp2
      go_ret2
      refine ⟨_, rfl, ownB_mono Hown5.out (by have := Hsz.out; simp <;> omega), ?_, hb4⟩
      exact (TurnsIn.of_below HT.out.lt hbw).trans (HTz.out.1.trans ht5))
end Go.Proofs.YtnagmopejblegaaGreat
