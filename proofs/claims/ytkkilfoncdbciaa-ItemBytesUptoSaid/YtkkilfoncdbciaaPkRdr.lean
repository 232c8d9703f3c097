/- Layer 3: pack.Reader: what it holds; its calls Left, Err, Fail, Byte, Done; those of a nil one. -/
import Derived.Test.YtkkilfoncdbciaaBcl
import Derived.Test.YtkkilfoncdbciaaPkPlain
import Derived.Laws.Shifts
import Derived.Laws.BitsAllLaws
namespace Go.Proofs.Ytkkilfoncdbciaa
open Go.RowKit

/-- the Reader at block g: the bytes that are left, its error -/
structure Rdr (w : World) (g : Nat) (l : List Nat) (er : Int) : Prop where
  lt : g < w.heap.size
  c0 : ∃ A n c, w.cell? ⟨g, 0, none⟩ = some (.slice A n c) ∧ Hid (n = l.length) ∧ n ≤ c ∧ Hid (A = none → n = 0 ∧ c = 0) ∧ RdB w g A l ∧ n ≤ 2097152 ∧ (∀ a, A = some a → ∃ b o, a = ⟨b, o, none⟩)
  c1 : w.cell? ⟨g, 1, none⟩ = some (.int .i64 er)
  f0 : w.frozen? ⟨g, 0, none⟩ = false
  f1 : w.frozen? ⟨g, 1, none⟩ = false
  ok : OkB l
  none_ : er ≠ 0 → l = []

section
variable {w w' : World} {g : Nat} {l : List Nat} {er : Int}
theorem Rdr.keep (h : Rdr w g l er) (hb : w'.heap.size ≥ w.heap.size) (hk : ∀ k, k ≤ g → w'.heap[k]? = w.heap[k]?) : Rdr w' g l er := by
  obtain ⟨h1, ⟨A, n, c, h2, h3, h4, h5, h6, h7⟩, h8, h9, h10, h11, h12⟩ := h
  have hc : ∀ o, w'.cell? ⟨g, o, none⟩ = w.cell? ⟨g, o, none⟩ := fun o => World.cell?_of_block (hk g (Nat.le_refl _))
  have hf : ∀ o, w'.frozen? ⟨g, o, none⟩ = w.frozen? ⟨g, o, none⟩ := fun o => World.frozen?_of_block (hk g (Nat.le_refl _))
  exact ⟨by omega, ⟨A, n, c, (hc 0).trans h2, h3, h4, h5, h6.keep fun p hp => World.cell?_of_block (hk _ (by omega)), h7⟩, (hc 1).trans h8, (hf 0).trans h9, (hf 1).trans h10, h11, h12⟩
theorem Rdr.below (h : Rdr w g l er) (hb : Below w.heap.size w w') : Rdr w' g l er := h.keep hb.size fun k hk => hb.block k (by have := h.lt; omega)
theorem Rdr.other (h : Rdr w g l er) {g2 : Nat} (hg : w.grownBy w' (some g2)) (hne : g < g2) : Rdr w' g l er := h.keep hg.size fun k hk => hg.block k (by have := h.lt; omega) (by simp; omega)
/-- its slice turned: the bytes that are left then -/
theorem Rdr.cut (h : Rdr w g l er) {A : Option Addr} {n c : Nat} {l2 : List Nat} (hn : n = l2.length) (hc : n ≤ c) (hA : A = none → n = 0 ∧ c = 0) (hr : RdB w g A l2) (hm : n ≤ 2097152) (hs : ∀ a, A = some a → ∃ b o, a = ⟨b, o, none⟩) (hok : OkB l2) (he : er ≠ 0 → l2 = []) : Rdr (w.setCell ⟨g, 0, none⟩ (.slice A n c)) g l2 er := by
  obtain ⟨h1, ⟨A0, n0, c0, h2, h3, h4, h5, h6, h7⟩, h8, h9, h10, h11, h12⟩ := h
  exact ⟨by simpa using h1, ⟨A, n, c, World.cell?_setCell_same _ _ _ h2, hn, hc, hA, hr.keep fun p hp => World.cell?_setCell_other _ _ _ _ (fun e => by rw [← e] at hp; simp at hp), hm, hs⟩, (World.cell?_setCell_other _ ⟨g, 0, none⟩ ⟨g, 1, none⟩ _ (by simp)).trans h8, by simpa using h9, by simpa using h10, hok, he⟩
/-- its error laid, nothing left -/
theorem Rdr.failed (h : Rdr w g l er) (e : Int) : Rdr ((w.setCell ⟨g, 0, none⟩ (.slice none 0 0)).setCell ⟨g, 1, none⟩ (.int .i64 e)) g [] e := by
  obtain ⟨h1, ⟨A0, n0, c0, h2, h3, h4, h5, h6, h7⟩, h8, h9, h10, h11, h12⟩ := h
  exact ⟨by simpa using h1, ⟨none, 0, 0, (World.cell?_setCell_other _ ⟨g, 1, none⟩ ⟨g, 0, none⟩ _ (by simp)).trans (World.cell?_setCell_same _ _ _ h2), rfl, Nat.le_refl _, fun _ => ⟨rfl, rfl⟩, RdB.empty, by omega, fun a e => (by cases e)⟩, World.cell?_setCell_same _ _ _ ((World.cell?_setCell_other _ ⟨g, 0, none⟩ ⟨g, 1, none⟩ _ (by simp)).trans h8), by simpa using h9, by simpa using h10, OkB.nil, fun _ => rfl⟩
end
theorem grown_set (w : World) (g o : Nat) (v : Value) : w.grownBy (w.setCell ⟨g, o, none⟩ v) (some g) := ⟨rfl, rfl, rfl, by simp, fun k _ hne => Below.heap_setCell _ _ _ k (fun e => hne (by rw [e]))⟩

set_option maxHeartbeats 400000 in
theorem rleft_any (g : Nat) (l : List Nat) (er : Int) (w : World) (h : Rdr w g l er) :
    Calls Try.prog 56 #[.pointer (some ⟨g, 0, none⟩)] w fun e w' => e = .returned (.int .i64 (l.length : Nat)) ∧ w = w' := by
  obtain ⟨A, n, c, hc, hn, _⟩ := h.c0
  clear h
  go_enter Try.func56, Try.ntmps56
  go_wp2
  go_ret
  exact ⟨by rw [← hn.out]; rfl, rfl⟩
set_option maxHeartbeats 400000 in
theorem rleft_nil (w : World) :
    Calls Try.prog 56 #[.pointer none] w fun e w' => e = .returned (.int .i64 0) ∧ w = w' := by
  go_enter Try.func56, Try.ntmps56
  go_wp2
  go_ret
  exact ⟨rfl, rfl⟩
set_option maxHeartbeats 400000 in
theorem rerr_any (g : Nat) (l : List Nat) (er : Int) (w : World) (h : Rdr w g l er) :
    Calls Try.prog 55 #[.pointer (some ⟨g, 0, none⟩)] w fun e w' => e = .returned (.int .i64 er) ∧ w = w' := by
  have hc := h.c1
  clear h
  go_enter Try.func55, Try.ntmps55
  go_wp2
  go_ret
  exact ⟨rfl, rfl⟩
set_option maxHeartbeats 400000 in
theorem rerr_nil (w : World) :
    Calls Try.prog 55 #[.pointer none] w fun e w' => e = .returned (.int .i64 1) ∧ w = w' := by
  go_enter Try.func55, Try.ntmps55
  go_wp2
  go_ret
  exact ⟨rfl, rfl⟩
set_option maxHeartbeats 400000 in
theorem rfail_nil (z : Int) (w : World) :
    Calls Try.prog 54 #[.pointer none, .int .i64 z] w fun e w' => e = .returned (.tuple #[]) ∧ w = w' := by
  go_enter Try.func54, Try.ntmps54
  go_wp2
  refine bodyPost_ret (results_none rfl _ _ _) rfl ?_
  exact ⟨rfl, rfl⟩
set_option maxHeartbeats 400000 in
/-- Fail where nothing is to be laid -/
theorem rfail_keep (g : Nat) (l : List Nat) (er z : Int) (hz : er ≠ 0 ∨ z = 0) (w : World) (h : Rdr w g l er) :
    Calls Try.prog 54 #[.pointer (some ⟨g, 0, none⟩), .int .i64 z] w fun e w' => e = .returned (.tuple #[]) ∧ w = w' := by
  have hc := h.c1
  clear h
  by_cases he : er = 0
  · subst he
    obtain rfl : z = 0 := by omega
    go_enter Try.func54, Try.ntmps54
    go_wp2
    refine bodyPost_ret (results_none rfl _ _ _) rfl ?_
    exact ⟨rfl, rfl⟩
  · have he2 : (er != 0) = true := by simpa using he
    clear he hz
    go_enter Try.func54, Try.ntmps54
    go_wp2
    refine bodyPost_ret (results_none rfl _ _ _) rfl ?_
    exact ⟨rfl, rfl⟩
set_option maxHeartbeats 400000 in
/-- Fail where there is no error yet -/
theorem rfail_set (g : Nat) (l : List Nat) (z : Int) (hz : z ≠ 0) (w : World) (h : Rdr w g l 0) :
    Calls Try.prog 54 #[.pointer (some ⟨g, 0, none⟩), .int .i64 z] w fun e w' => e = .returned (.tuple #[]) ∧ Rdr w' g [] z ∧ w.grownBy w' (some g) := by
  have hc := h.c1
  have f0 := h.f0
  have f1 := h.f1
  obtain ⟨A, n, c, c0, _⟩ := h.c0
  have H := Lib.hid h
  clear h
  have hz2 : (z == 0) = false := by simpa using hz
  clear hz
  go_enter Try.func54, Try.ntmps54
  go_wp2
  go_end0
  exact ⟨rfl, H.out.failed z, grownBy_trans (grown_set _ _ _ _) (grown_set _ _ _ _)⟩

set_option maxHeartbeats 400000 in
theorem rbyte_err (g : Nat) (er : Int) (he : er ≠ 0) (w : World) (h : Rdr w g [] er) :
    Calls Try.prog 68 #[.pointer (some ⟨g, 0, none⟩)] w fun e w' => e = .returned (.int .u8 0) ∧ w = w' := by
  have H := Lib.hid h
  clear h
  go_enter Try.func68, Try.ntmps68
  go_wp2_with fail
  refine (rleft_any g [] er w H.out).mono ?_
  rintro e w1 ⟨rfl, rfl⟩
  go_wp2_with fail
  refine (rfail_keep g [] er 3 (.inl he) w H.out).mono ?_
  rintro e w1 ⟨rfl, rfl⟩
  go_wp2
  go_ret
  exact ⟨rfl, rfl⟩
set_option maxHeartbeats 400000 in
theorem rbyte_short (g : Nat) (w : World) (h : Rdr w g [] 0) :
    Calls Try.prog 68 #[.pointer (some ⟨g, 0, none⟩)] w fun e w' => e = .returned (.int .u8 0) ∧ Rdr w' g [] 3 ∧ w.grownBy w' (some g) := by
  have H := Lib.hid h
  clear h
  go_enter Try.func68, Try.ntmps68
  go_wp2_with fail
  refine (rleft_any g [] 0 w H.out).mono ?_
  rintro e w1 ⟨rfl, rfl⟩
  go_wp2_with fail
  refine (rfail_set g [] 3 (by decide) w H.out).mono ?_
  rintro e w1 ⟨rfl, h1, h2⟩
  have H1 := Lib.hid h1
  have H2 := Lib.hid h2
  clear h1 h2
  go_wp2
  go_ret
  exact ⟨rfl, H1.out, H2.out⟩
set_option maxHeartbeats 400000 in
theorem rbyte_nil (w : World) :
    Calls Try.prog 68 #[.pointer none] w fun e w' => e = .returned (.int .u8 0) ∧ w = w' := by
  go_enter Try.func68, Try.ntmps68
  go_wp2_with fail
  refine (rleft_nil w).mono ?_
  rintro e w1 ⟨rfl, rfl⟩
  go_wp2_with fail
  refine (rfail_nil 3 w).mono ?_
  rintro e w1 ⟨rfl, rfl⟩
  go_wp2
  go_ret
  exact ⟨rfl, rfl⟩
set_option maxHeartbeats 400000 in
theorem rbyte_cons (g : Nat) (x : Nat) (l : List Nat) (w : World) (h : Rdr w g (x :: l) 0) :
    Calls Try.prog 68 #[.pointer (some ⟨g, 0, none⟩)] w fun e w' => e = .returned (.int .u8 x) ∧ Rdr w' g l 0 ∧ w.grownBy w' (some g) := by
  have H := Lib.hid h
  have f0 := h.f0
  obtain ⟨A, n, c, c0, hn, hnc, hA, hr, hm, hs⟩ := h.c0
  obtain ⟨b, o, rfl, hb, hcs⟩ := hr (by simp)
  have cx : w.cell? ⟨b, o, none⟩ = some (.int .u8 x) := hcs 0 x rfl
  have Hcs := Lib.hid hcs
  have Hr := Lib.hid hr
  have hpos : 0 < n := by rw [hn.out]; simp
  obtain ⟨m, rfl⟩ : ∃ m, n = m + 1 := ⟨n - 1, by omega⟩
  clear h hcs hr hs
  go_enter Try.func68, Try.ntmps68
  go_wp2_with fail
  refine (rleft_any g (x :: l) 0 w H.out).mono ?_
  rintro e w1 ⟨rfl, rfl⟩
  go_wp2
  · go_ret
    have hl : m = l.length := by have := hn.out; simpa using this
    obtain rfl : l = [] := List.eq_nil_of_length_eq_zero (by omega)
    obtain rfl : m = 0 := by simpa using hl
    exact ⟨rfl, H.out.cut rfl (Nat.le_refl _) (fun e => by cases e) RdB.empty (by omega) (fun a e => by cases e; exact ⟨_, _, rfl⟩) OkB.nil (fun _ => rfl), grown_set _ _ _ _⟩
  · go_ret
    have hl : m = l.length := by have := hn.out; simpa using this
    exact ⟨rfl, H.out.cut hl (by omega) (fun e => by cases e) (Hr.out.drop 1) (by omega) (fun a e => by cases e; exact ⟨_, _, rfl⟩) (fun y hy => H.out.ok y (by simp [hy])) (fun e => absurd rfl e), grown_set _ _ _ _⟩
end Go.Proofs.Ytkkilfoncdbciaa
