/- Layer 4: item.Span, item.Lasts; the document's Span. -/
import Derived.Test.YtkkilfoncdbciaaItPlain
import Derived.BigQuiet
namespace Go.Proofs.Ytkkilfoncdbciaa
open Go.RowKit

def spO (x : It) : Nat := if x.g then x.ga else x.o
def spF (x : It) : Nat := if x.g then x.gf else x.q
def spT (x : It) : Nat := if x.g then x.gt else x.q

set_option maxRecDepth 100000 in
set_option maxHeartbeats 1000000 in
theorem span_any (x : It) (A : Option Addr) (n c : Nat) (w : World) :
    Calls Try.prog 21 #[.agg #[.bool x.g, .int .u8 x.o, .int .u64 x.q, .int .u64 x.t, .string x.r, .slice A n c, .int .u8 x.s, .int .u8 x.p, .int .i64 x.v, .int .u8 x.w, .int .u8 x.ga, .int .u64 x.gf, .int .u64 x.gt]] w fun e w' => e = .returned (.tuple #[.int .u8 (spO x), .int .u64 (spF x), .int .u64 (spT x)]) ∧ Below w.heap.size w w' := by
  have hba : Below w.heap.size w (w.alloc (.cells #[.bool x.g, .int .u8 x.o, .int .u64 x.q, .int .u64 x.t, .string x.r, .slice A n c, .int .u8 x.s, .int .u8 x.p, .int .i64 x.v, .int .u8 x.w, .int .u8 x.ga, .int .u64 x.gf, .int .u64 x.gt] 30)) := (Below.refl _ _).alloc (Nat.le_refl _) _
  obtain ⟨g, hg⟩ : ∃ g, x.g = g := ⟨_, rfl⟩
  have h1 : spO x = if g then x.ga else x.o := by unfold spO; rw [hg]
  have h2 : spF x = if g then x.gf else x.q := by unfold spF; rw [hg]
  have h3 : spT x = if g then x.gt else x.q := by unfold spT; rw [hg]
  rw [hg] at hba ⊢
  have H1 := Lib.hid h1
  have H2 := Lib.hid h2
  have H3 := Lib.hid h3
  clear h1 h2 h3 hg
  cases g
  · go_enter Try.func21, Try.ntmps21
    go_wp2
    go_quiet (fail)
    go_wp2
    refine bodyPost_ret (v := .tuple #[.int .u8 x.o, .int .u64 x.q, .int .u64 x.q]) (by simp [results, Try.results21, go_sem]) rfl ⟨by rw [H1.out, H2.out, H3.out]; rfl, cbelow_drewN hba _⟩
  · go_enter Try.func21, Try.ntmps21
    go_wp2
    go_quiet (fail)
    go_wp2
    refine bodyPost_ret (v := .tuple #[.int .u8 x.ga, .int .u64 x.gf, .int .u64 x.gt]) (by simp [results, Try.results21, go_sem]) rfl ⟨by rw [H1.out, H2.out, H3.out]; rfl, cbelow_drewN hba _⟩

set_option maxRecDepth 100000 in
set_option maxHeartbeats 1000000 in
theorem rspan_any (x : It) (A : Option Addr) (n c : Nat) (w : World) :
    Calls Try.prog 22 #[.agg #[.bool x.g, .int .u8 x.o, .int .u64 x.q, .int .u64 x.t, .string x.r, .slice A n c, .int .u8 x.s, .int .u8 x.p, .int .i64 x.v, .int .u8 x.w, .int .u8 x.ga, .int .u64 x.gf, .int .u64 x.gt]] w fun e w' => e = .returned (.tuple #[.int .u8 (spO x), .int .u64 (spF x), .int .u64 (spT x)]) ∧ Below w.heap.size w w' := by
  have hba : Below w.heap.size w (w.alloc (.cells #[.bool x.g, .int .u8 x.o, .int .u64 x.q, .int .u64 x.t, .string x.r, .slice A n c, .int .u8 x.s, .int .u8 x.p, .int .i64 x.v, .int .u8 x.w, .int .u8 x.ga, .int .u64 x.gf, .int .u64 x.gt] 30)) := (Below.refl _ _).alloc (Nat.le_refl _) _
  obtain ⟨g, hg⟩ : ∃ g, x.g = g := ⟨_, rfl⟩
  have h1 : spO x = if g then x.ga else x.o := by unfold spO; rw [hg]
  have h2 : spF x = if g then x.gf else x.q := by unfold spF; rw [hg]
  have h3 : spT x = if g then x.gt else x.q := by unfold spT; rw [hg]
  rw [hg] at hba ⊢
  have H1 := Lib.hid h1
  have H2 := Lib.hid h2
  have H3 := Lib.hid h3
  clear h1 h2 h3 hg
  cases g
  · go_enter Try.func22, Try.ntmps22
    go_wp2
    go_quiet (fail)
    go_wp2
    refine bodyPost_ret (v := .tuple #[.int .u8 x.o, .int .u64 x.q, .int .u64 x.q]) (by simp [results, Try.results22, go_sem]) rfl ⟨by rw [H1.out, H2.out, H3.out]; rfl, cbelow_drewN hba _⟩
  · go_enter Try.func22, Try.ntmps22
    go_wp2
    go_quiet (fail)
    go_wp2
    refine bodyPost_ret (v := .tuple #[.int .u8 x.ga, .int .u64 x.gf, .int .u64 x.gt]) (by simp [results, Try.results22, go_sem]) rfl ⟨by rw [H1.out, H2.out, H3.out]; rfl, cbelow_drewN hba _⟩

def lastB (x : It) : Bool := x.g || decide (0 < x.w)
set_option maxRecDepth 100000 in
set_option maxHeartbeats 1000000 in
theorem lasts_any (x : It) (A : Option Addr) (n c : Nat) (w : World) :
    Calls Try.prog 23 #[.agg #[.bool x.g, .int .u8 x.o, .int .u64 x.q, .int .u64 x.t, .string x.r, .slice A n c, .int .u8 x.s, .int .u8 x.p, .int .i64 x.v, .int .u8 x.w, .int .u8 x.ga, .int .u64 x.gf, .int .u64 x.gt]] w fun e w' => e = .returned (.bool (lastB x)) ∧ Below w.heap.size w w' := by
  have hba : Below w.heap.size w (w.alloc (.cells #[.bool x.g, .int .u8 x.o, .int .u64 x.q, .int .u64 x.t, .string x.r, .slice A n c, .int .u8 x.s, .int .u8 x.p, .int .i64 x.v, .int .u8 x.w, .int .u8 x.ga, .int .u64 x.gf, .int .u64 x.gt] 30)) := (Below.refl _ _).alloc (Nat.le_refl _) _
  obtain ⟨g, hg⟩ : ∃ g, x.g = g := ⟨_, rfl⟩
  unfold lastB
  rw [hg] at hba ⊢
  cases g
  · obtain ⟨b, hb⟩ : ∃ b, ((x.w : Int) != 0) = b := ⟨_, rfl⟩
    have hb2 : (!((x.w : Int) == 0)) = b := hb
    have h2 : Hid (b = decide (0 < x.w)) := by
      show b = _
      rw [← hb, Bool.eq_iff_iff, bne_iff_ne, decide_eq_true_iff]
      omega
    have Hb := Lib.hid hb
    clear hb
    go_enter Try.func23, Try.ntmps23
    go_wp2
    go_ret
    exact ⟨by rw [← h2.out, ← Hb.out]; rfl, hba⟩
  · go_enter Try.func23, Try.ntmps23
    go_wp2
    go_ret
    exact ⟨by simp, hba⟩
end Go.Proofs.Ytkkilfoncdbciaa
