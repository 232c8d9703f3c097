/- Layer 3: a thing put (the statement's own helper). -/
import Derived.Test.YtgadcongolldjaaPkWtr
namespace Go.Proofs.Ytgadcongolldjaa
open Go.RowKit

/-- 64 bits as a signed number -/
def toI (n : Nat) : Int := if n < 9223372036854775808 then n else (n : Int) - 18446744073709551616
theorem toI_bounds {n : Nat} (h : n < 18446744073709551616) : -9223372036854775808 ≤ toI n ∧ toI n < 9223372036854775808 := by unfold toI; split <;> omega
theorem toI_wrap {n : Nat} (h : n < 18446744073709551616) : wrap64 (n : Int) = toI n := by unfold wrap64 toI; split <;> omega
/-- a thing's bytes -/
def thingB (kind n : Nat) (s : ByteArray) : List Nat :=
  match kind % 5 with
  | 0 => [n % 256]
  | 1 => leb n
  | 2 => leb (zig (toI n))
  | 3 => [n % 2]
  | _ => leb s.size ++ bytesN s

theorem wint_at (g : Nat) (v : Value) (l : List Nat) {y : Int} (z : Int) (hy : y = z) (h1 : -9223372036854775808 ≤ z) (h2 : z < 9223372036854775808) (w : World) (h : Wtr w g v l) (hl : l.length ≤ 2097000) :
    Calls Try.prog 26 #[.pointer (some ⟨g, 0, none⟩), .int .i64 y] w fun e w' => e = .returned (.tuple #[]) ∧ Puts w w' g v (l ++ leb (zig z)) := by
  subst hy; exact wint_any g v l y h1 h2 w h hl
theorem refInt_at {y : Int} (z : Int) (hy : y = z) (h1 : -9223372036854775808 ≤ z) (h2 : z < 9223372036854775808) (w : World) :
    Calls Try.prog 28 #[.int .i64 y] w fun e w' => ∃ v, e = .returned v ∧ w'.ownsRow w.heap.size 5 1 v (leb (zig z)).length (cellsB (leb (zig z))) ∧ Below w.heap.size w w' := by
  subst hy; exact refInt_any y h1 h2 w
theorem wbool_at (g : Nat) (v : Value) (l : List Nat) {b : Bool} (n : Nat) (hb : b = decide (n % 2 = 1)) (w : World) (h : Wtr w g v l) (hl : l.length ≤ 2097000) :
    Calls Try.prog 29 #[.pointer (some ⟨g, 0, none⟩), .bool b] w fun e w' => e = .returned (.tuple #[]) ∧ Puts w w' g v (l ++ [n % 2]) := by
  have h0 := wbool_any g v l b w h hl
  have e : (if b then 1 else 0) = n % 2 := by
    subst hb
    by_cases h : n % 2 = 1
    · simp [h]
    · simp [h]; omega
  rw [e] at h0
  exact h0

set_option maxRecDepth 100000 in
set_option maxHeartbeats 1000000 in
theorem put_any (g : Nat) (v : Value) (l : List Nat) (kind n : Nat) (hkd : kind < 256) (hn : n < 18446744073709551616) (s : ByteArray) (hs : s.size ≤ 1048576) (w : World) (h : Wtr w g v l) (hl : l.length ≤ 1048000) :
    Calls Try.prog 9 #[.agg #[.int .u8 kind, .int .u64 n, .string s], .pointer (some ⟨g, 0, none⟩)] w fun e w' => ∃ v2, e = .returned v2 ∧ w'.ownsRow w.heap.size 5 1 v2 (thingB kind n s).length (cellsB (thingB kind n s)) ∧ Puts w w' g v (l ++ thingB kind n s) := by
  have hba : Below w.heap.size w (w.alloc (.cells #[.int .u8 kind, .int .u64 n, .string s] 29)) := (Below.refl _ _).alloc (Nat.le_refl _) _
  have Hba := Lib.hid hba
  have HW := Lib.hid (h.below hba)
  have hgl := h.lt
  have Hne : Hid (some w.heap.size ≠ v.ownBlock) := fun e => Nat.lt_irrefl _ (h.own.lt _ e.symm).2
  have cb1 : (w.alloc (.cells #[.int .u8 kind, .int .u64 n, .string s] 29)).cell? ⟨w.heap.size, 1, none⟩ = some (.int .u64 n) := by rw [World.cell?_alloc_at _ _ _ _ rfl]; rfl
  have cb2 : (w.alloc (.cells #[.int .u8 kind, .int .u64 n, .string s] 29)).cell? ⟨w.heap.size, 2, none⟩ = some (.string s) := by rw [World.cell?_alloc_at _ _ _ _ rfl]; rfl
  clear h hba
  obtain ⟨hi1, hi2⟩ := toI_bounds hn
  have HI := Lib.hid (toI_wrap hn)
  obtain ⟨r, hr, hr5⟩ : ∃ r : Nat, kind % 5 = r ∧ r < 5 := ⟨_, rfl, by omega⟩
  match r, hr5 with
  | 0, _ =>
    have Ht : Hid (thingB kind n s = [n % 256]) := by show _ = _; unfold thingB; rw [hr]; rfl
    rw [Ht.out]
    clear Ht
    have k0 : ((kind : Int) % 5 == 0) = true := by rw [beq_iff_eq]; omega
    clear hr
    go_enter Try.func9, Try.ntmps9
    go_wp2_with fail
    refine (wbyte_at g v l (n % 256) (by omega) _ HW.out (by omega)).mono ?_
    rintro e w1 ⟨rfl, v1, h1, h2⟩
    have c1 := (h2.cell (p := ⟨w.heap.size, 1, none⟩) (by simp) (by simp; omega) Hne.out).trans cb1
    have c2 := (h2.cell (p := ⟨w.heap.size, 2, none⟩) (by simp) (by simp; omega) Hne.out).trans cb2
    have H1 := Lib.hid h1
    have H2 := Lib.hid ((Wrote.of_below Hba.out g v.ownBlock).trans h2)
    have hsz := H2.out.size
    clear h1 h2
    go_wp2
    go_ret
    have hb : Below w1.heap.size w1 (w1.alloc (.cells #[.int .u8 ((n : Int) % 256)] 5)) := (Below.refl _ _).alloc (Nat.le_refl _) _
    exact ⟨_, rfl, ownB_mono (World.ownsRow_lit w1 #[_] 1 (Nat.le_refl _) (by decide) rfl) hsz, v1, H1.out.below hb, H2.out.trans (Wrote.of_below hb _ _)⟩
  | 1, _ =>
    have Ht : Hid (thingB kind n s = leb n) := by show _ = _; unfold thingB; rw [hr]; rfl
    rw [Ht.out]
    clear Ht
    have k0 : ((kind : Int) % 5 == 0) = false := by rw [beq_eq_false_iff_ne]; omega
    have k1 : ((kind : Int) % 5 == 1) = true := by rw [beq_iff_eq]; omega
    clear hr
    go_enter Try.func9, Try.ntmps9
    go_wp2_with fail
    refine (wuint_at g v l n rfl hn _ HW.out (by omega)).mono ?_
    rintro e w1 ⟨rfl, v1, h1, h2⟩
    have c1 := (h2.cell (p := ⟨w.heap.size, 1, none⟩) (by simp) (by simp; omega) Hne.out).trans cb1
    have c2 := (h2.cell (p := ⟨w.heap.size, 2, none⟩) (by simp) (by simp; omega) Hne.out).trans cb2
    have H1 := Lib.hid h1
    have H2 := Lib.hid ((Wrote.of_below Hba.out g v.ownBlock).trans h2)
    have hsz := H2.out.size
    clear h1 h2
    go_wp2_with fail
    refine (refUint_at n rfl hn _).mono ?_
    rintro e w2 ⟨v2, rfl, ho, hb⟩
    have Ho := Lib.hid (ownB_mono ho hsz)
    have Hb := Lib.hid hb
    clear ho hb
    go_wp2
    go_ret
    exact ⟨_, rfl, Ho.out, v1, H1.out.below Hb.out, H2.out.trans (Wrote.of_below Hb.out _ _)⟩
  | 2, _ =>
    have Ht : Hid (thingB kind n s = leb (zig (toI n))) := by show _ = _; unfold thingB; rw [hr]; rfl
    rw [Ht.out]
    clear Ht
    have k0 : ((kind : Int) % 5 == 0) = false := by rw [beq_eq_false_iff_ne]; omega
    have k1 : ((kind : Int) % 5 == 1) = false := by rw [beq_eq_false_iff_ne]; omega
    have k2 : ((kind : Int) % 5 == 2) = true := by rw [beq_iff_eq]; omega
    clear hr
    go_enter Try.func9, Try.ntmps9
    go_wp2_with fail
    refine (wint_at g v l (toI n) HI.out hi1 hi2 _ HW.out (by omega)).mono ?_
    rintro e w1 ⟨rfl, v1, h1, h2⟩
    have c1 := (h2.cell (p := ⟨w.heap.size, 1, none⟩) (by simp) (by simp; omega) Hne.out).trans cb1
    have c2 := (h2.cell (p := ⟨w.heap.size, 2, none⟩) (by simp) (by simp; omega) Hne.out).trans cb2
    have H1 := Lib.hid h1
    have H2 := Lib.hid ((Wrote.of_below Hba.out g v.ownBlock).trans h2)
    have hsz := H2.out.size
    clear h1 h2
    go_wp2_with fail
    refine (refInt_at (toI n) HI.out hi1 hi2 _).mono ?_
    rintro e w2 ⟨v2, rfl, ho, hb⟩
    have Ho := Lib.hid (ownB_mono ho hsz)
    have Hb := Lib.hid hb
    clear ho hb
    go_wp2
    go_ret
    exact ⟨_, rfl, Ho.out, v1, H1.out.below Hb.out, H2.out.trans (Wrote.of_below Hb.out _ _)⟩
  | 3, _ =>
    have Ht : Hid (thingB kind n s = [n % 2]) := by show _ = _; unfold thingB; rw [hr]; rfl
    rw [Ht.out]
    clear Ht
    have k0 : ((kind : Int) % 5 == 0) = false := by rw [beq_eq_false_iff_ne]; omega
    have k1 : ((kind : Int) % 5 == 1) = false := by rw [beq_eq_false_iff_ne]; omega
    have k2 : ((kind : Int) % 5 == 2) = false := by rw [beq_eq_false_iff_ne]; omega
    have k3 : ((kind : Int) % 5 == 3) = true := by rw [beq_iff_eq]; omega
    clear hr
    go_enter Try.func9, Try.ntmps9
    go_wp2_with fail
    refine (wbool_at g v l n (by rw [Bool.eq_iff_iff, beq_iff_eq, decide_eq_true_iff]; omega) _ HW.out (by omega)).mono ?_
    rintro e w1 ⟨rfl, v1, h1, h2⟩
    have c1 := (h2.cell (p := ⟨w.heap.size, 1, none⟩) (by simp) (by simp; omega) Hne.out).trans cb1
    have c2 := (h2.cell (p := ⟨w.heap.size, 2, none⟩) (by simp) (by simp; omega) Hne.out).trans cb2
    have H1 := Lib.hid h1
    have H2 := Lib.hid ((Wrote.of_below Hba.out g v.ownBlock).trans h2)
    have hsz := H2.out.size
    clear h1 h2
    go_wp2
    go_ret
    have hb : Below w1.heap.size w1 (w1.alloc (.cells #[.int .u8 ((n : Int) % 2)] 5)) := (Below.refl _ _).alloc (Nat.le_refl _) _
    exact ⟨_, rfl, ownB_mono (World.ownsRow_lit w1 #[_] 1 (Nat.le_refl _) (by decide) rfl) hsz, v1, H1.out.below hb, H2.out.trans (Wrote.of_below hb _ _)⟩
  | 4, _ =>
    have Ht : Hid (thingB kind n s = leb s.size ++ bytesN s) := by show _ = _; unfold thingB; rw [hr]; rfl
    rw [Ht.out]
    clear Ht
    have k0 : ((kind : Int) % 5 == 0) = false := by rw [beq_eq_false_iff_ne]; omega
    have k1 : ((kind : Int) % 5 == 1) = false := by rw [beq_eq_false_iff_ne]; omega
    have k2 : ((kind : Int) % 5 == 2) = false := by rw [beq_eq_false_iff_ne]; omega
    have k3 : ((kind : Int) % 5 == 3) = false := by rw [beq_eq_false_iff_ne]; omega
    clear hr
    go_enter Try.func9, Try.ntmps9
    go_wp2_with fail
    refine (wtext_any g v l s hs _ HW.out hl).mono ?_
    rintro e w1 ⟨rfl, v1, h1, h2⟩
    have c1 := (h2.cell (p := ⟨w.heap.size, 1, none⟩) (by simp) (by simp; omega) Hne.out).trans cb1
    have c2 := (h2.cell (p := ⟨w.heap.size, 2, none⟩) (by simp) (by simp; omega) Hne.out).trans cb2
    have H1 := Lib.hid h1
    have H2 := Lib.hid ((Wrote.of_below Hba.out g v.ownBlock).trans h2)
    have hsz := H2.out.size
    clear h1 h2
    go_wp2_with fail
    refine (refLong_any s hs _).mono ?_
    rintro e w2 ⟨v2, rfl, ho, hb⟩
    have Ho := Lib.hid (ownB_mono ho hsz)
    have Hb := Lib.hid hb
    clear ho hb
    go_wp2
    go_ret
    exact ⟨_, rfl, by rw [List.length_append, bytesN_length]; exact Ho.out, v1, H1.out.below Hb.out, H2.out.trans (Wrote.of_below Hb.out _ _)⟩
end Go.Proofs.Ytgadcongolldjaa
