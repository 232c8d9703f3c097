/- Layer 13: Add, of any point that may be added; the statements' fixed fact. -/
import Derived.Test.YthggaedpbmjclaaDoorCdHold3
namespace Go.Proofs.YthggaedpbmjclaaDoor
open Go.RowKit Go.Proofs

def ser0 : Array Value := #[.int .u64 0, .int .i64 0, .int .u64 0, .int .i64 0, .int .u64 0, .int .i64 0, .int .u64 0, .int .i64 0, .int .u64 0, .int .i64 0, .int .u64 0, .int .i64 0, .int .u64 0, .int .i64 0, .int .u64 0, .int .i64 0, .int .u64 0, .int .i64 0, .int .u64 0, .int .i64 0, .int .u64 0, .int .i64 0, .int .u64 0, .int .i64 0, .int .u64 0, .int .i64 0, .int .u64 0, .int .i64 0, .int .u64 0, .int .i64 0, .int .u64 0, .int .i64 0, .int .u64 0, .int .i64 0, .int .u64 0, .int .i64 0, .int .u64 0, .int .i64 0, .int .u64 0, .int .i64 0, .int .u64 0, .int .i64 0, .int .u64 0, .int .i64 0, .int .u64 0, .int .i64 0, .int .u64 0, .int .i64 0, .int .u64 0, .int .i64 0, .int .u64 0, .int .i64 0, .int .u64 0, .int .i64 0, .int .u64 0, .int .i64 0, .int .u64 0, .int .i64 0, .int .u64 0, .int .i64 0, .int .u64 0, .int .i64 0, .int .u64 0, .int .i64 0, .int .i64 0]
theorem ser0_eq : (serC [] (List.replicate 32 ⟨0, 0⟩) 0).toArray = ser0 := by rfl
theorem Tryd.zeroSer (w : World) : (zeroValue 54).run Tryd.prog w = .ok (.agg ser0) w := by kernel_rfl
theorem serMade (w : World) : ∃ V, V = w.alloc (.cells ser0 54) ∧ SerAt V w.heap.size [] ∧ Below w.heap.size w V ∧ V.heap.size = w.heap.size + 1 := by
  refine ⟨_, rfl, ?_, (Below.refl _ _).alloc (Nat.le_refl _) _, by simp⟩
  rw [← ser0_eq]
  exact SerAt.made w
def addP (L : List Pt) (p : Pt) : List Pt := (if L.length = 32 then L.drop 1 else L) ++ [p]
theorem addP_last (L : List Pt) (p : Pt) : (addP L p).getLast? = some p := by simp [addP]
theorem addP_ok {L : List Pt} {p : Pt} (h : ∀ q ∈ L, OkPt q) (hp : OkPt p) : ∀ q ∈ addP L p, OkPt q := by
  intro q hq
  unfold addP at hq
  split at hq
  · rw [List.mem_append, List.mem_singleton] at hq
    rcases hq with hq | rfl
    · exact h q (List.mem_of_mem_drop hq)
    · exact hp
  · rw [List.mem_append, List.mem_singleton] at hq
    rcases hq with hq | rfl
    · exact h q hq
    · exact hp
section
variable {w : World} {s : Nat} {L : List Pt}
theorem cadd_ok {t : Nat} {v : Int} (w : World) (h : SerAt w s L) (hp : ∀ p, L.getLast? = some p → p.t ≤ t) (ht : t ≤ 1099511627776) :
    Calls Tryd.prog 18 #[.pointer (some ⟨s, 0, none⟩), .int .u64 t, .int .i64 v] w fun e w' => e = .returned (.int .i64 0) ∧ SerAt w' s (addP L ⟨t, v⟩) ∧ Only13 s w w' := by
  unfold addP
  by_cases e : L.length = 32
  · rw [if_pos e]
    cases hl : L.getLast? with
    | none =>
      obtain rfl : L = [] := by simpa using hl
      simp at e
    | some p => exact cadd_full w h e hl (hp p hl) ht
  · rw [if_neg e]
    exact cadd_room w h (by have := h.few; omega) hp ht
end
set_option maxRecDepth 100000 in
set_option maxHeartbeats 1000000 in
/-- the statements' fixed fact -/
theorem awake13_any (w : World) : Calls Tryd.prog 5 #[] w fun e w' => e = .returned (.bool true) ∧ Below w.heap.size w w' := by
  obtain ⟨V, hV, hs0, hb0, hsz⟩ := serMade w
  have HA := Lib.hid (cadd_ok (t := 1) (v := 10) V hs0 (fun p h => by simp at h) (by decide))
  have HV := Lib.hid hV
  have HB0 := Lib.hid hb0
  have hz := Tryd.zeroSer
  obtain ⟨g, hg⟩ : ∃ g, g = w.heap.size := ⟨_, rfl⟩
  have HGE := Lib.hid hg
  rw [← hg] at HA
  clear hV hs0 hb0 hsz hg
  go_enter Tryd.func5, Tryd.ntmps5
  go_upto_region 2 with fail
  rw [← HV.out, ← HGE.out]
  go_wp2_with fail
  refine HA.out.mono ?_
  rintro _ w1 ⟨rfl, hs1, ho1⟩
  have HB1 := Lib.hid (ho1.below HB0.out HB0.out.size (by rw [HGE.out]; exact Nat.le_refl _))
  have HA2 := Lib.hid (cadd_ok (t := 3) (v := 5) w1 hs1 (fun p h => by simp [addP] at h; subst h; decide) (by decide))
  clear ho1 hs1 HA HB0 HV
  go_wp2_with fail
  refine HA2.out.mono ?_
  rintro _ w2 ⟨rfl, hs2, ho2⟩
  have HB2 := Lib.hid (ho2.below HB1.out HB1.out.size (by rw [HGE.out]; exact Nat.le_refl _))
  have hok : ∀ q ∈ addP (addP [] ⟨1, 10⟩) ⟨3, 5⟩, OkPt q := addP_ok (addP_ok (fun q h => by cases h) ⟨by decide, by decide, by decide⟩) ⟨by decide, by decide, by decide⟩
  have e4 : holdsK 4 3 5 (addP (addP [] ⟨1, 10⟩) ⟨3, 5⟩) ⟨3, 5⟩ 3 = false := by decide
  have e5 : holdsK 5 3 5 (addP (addP [] ⟨1, 10⟩) ⟨3, 5⟩) ⟨3, 5⟩ 3 = true := by decide
  have HH : Hid (∀ W, SerAt W g (addP (addP [] ⟨1, 10⟩) ⟨3, 5⟩) → Calls Tryd.prog 19 #[.agg #[.int .u8 4, .int .i64 3, .int .u64 5], .pointer (some ⟨g, 0, none⟩), .int .u64 3] W fun e w' => e = .returned (.tuple #[.bool false, .int .i64 5]) ∧ Below W.heap.size W w') := fun W hW => by
    have := chol_some (k := 4) (tk := 5) (now := 3) (lim := 3) W hW hok (addP_last _ _) (by decide) (by decide) (fun _ => by decide) (by decide) (by decide) (by decide)
    rw [e4] at this
    exact this
  have HH5 : Hid (∀ W, SerAt W g (addP (addP [] ⟨1, 10⟩) ⟨3, 5⟩) → Calls Tryd.prog 19 #[.agg #[.int .u8 5, .int .i64 3, .int .u64 5], .pointer (some ⟨g, 0, none⟩), .int .u64 3] W fun e w' => e = .returned (.tuple #[.bool true, .int .i64 5]) ∧ Below W.heap.size W w') := fun W hW => by
    have := chol_some (k := 5) (tk := 5) (now := 3) (lim := 3) W hW hok (addP_last _ _) (by decide) (by decide) (fun _ => by decide) (by decide) (by decide) (by decide)
    rw [e5] at this
    exact this
  have HS2 := Lib.hid hs2
  clear hs2 ho2 HA2 HB1 hok e4 e5
  go_wp2_with fail
  refine (HH.out _ HS2.out).mono ?_
  rintro _ w3 ⟨rfl, hb3⟩
  have HS3 := Lib.hid (HS2.out.below hb3)
  have HB3 := Lib.hid (HB2.out.trans (hb3.mono HB2.out.size))
  clear hb3 HS2 HB2 HH
  go_wp2_with fail
  refine (HH5.out _ HS3.out).mono ?_
  rintro _ w4 ⟨rfl, hb4⟩
  have HB4 := Lib.hid (HB3.out.trans (hb4.mono HB3.out.size))
  clear hb4 HS3 HB3 HH5
  go_wp2
  go_ret
  exact ⟨rfl, HB4.out⟩
end Go.Proofs.YthggaedpbmjclaaDoor
