/- Layer 2: a sum as four bytes, and back: the document's Four; crc.Put, crc.Take. -/
import Derived.Test.YtgcfofnlgdfmoaaCrcRef
import Derived.Laws.Shifts
import Derived.LoopN
import Derived.Laws.ShiftsVarLaws
namespace Go.Proofs.Ytgcfofnlgdfmoaa
open Go.RowKit

set_option maxRecDepth 100000 in
set_option maxHeartbeats 400000 in
theorem cput_any (n : Nat) (w : World) (hn : n < 4294967296) :
    Calls Try.prog 64 #[.int .u32 n] w fun e w' => e = .returned (.agg ((cellsB (four n)).toArray)) ∧ Below w.heap.size w w' := by
  go_enter Try.func64, Try.ntmps64
  go_wp2
  refine wp_loop_rounds 5 ?_
  rw [rounds_succ]; go_wp2
  rw [rounds_succ]; go_wp2
  rw [rounds_succ]; go_wp2
  rw [rounds_succ]; go_wp2
  rw [rounds_succ]; go_wp2
  have e : cellsB (four n) = [Value.int .u8 ((n : Int) % 256), Value.int .u8 ((n : Int) / 256 % 256), Value.int .u8 ((n : Int) / 65536 % 256), Value.int .u8 ((n : Int) / 16777216)] := by
    simp only [cellsB, four, encB, List.map_cons, List.map_nil]
    rw [show n / 16777216 % 256 = n / 16777216 by omega]
    rfl
  rw [e]
  exact bodyPost_ret (v := .agg #[Value.int .u8 ((n : Int) % 256), Value.int .u8 ((n : Int) / 256 % 256), Value.int .u8 ((n : Int) / 65536 % 256), Value.int .u8 ((n : Int) / 16777216)]) (by simp [results, Try.results64, go_sem]) rfl ⟨rfl, ((Below.refl _ _).alloc (Nat.le_refl _) _).alloc (by simp) _⟩

/-- the number whose bytes these are -/
def takeN (l : List Nat) : Nat := l.getD 0 0 + 256 * l.getD 1 0 + 65536 * l.getD 2 0 + 16777216 * l.getD 3 0
theorem or_add {a b : Nat} {k : Nat} (ha : a < 2 ^ k) (hs : a + 2 ^ k * b < 4294967296) : bits .or .u32 (a : Int) ((2 ^ k * b : Nat) : Int) = ((a + 2 ^ k * b : Nat) : Int) := by
  rw [u32_or_nat _ _ (by omega) (by omega), Nat.or_comm, nat_join k _ _ (Nat.mul_mod_right _ _) ha, Nat.add_comm]

set_option maxRecDepth 100000 in
set_option maxHeartbeats 400000 in
theorem ctake_any (l : List Nat) (hl : l.length = 4) (hok : OkB l) (w : World) :
    Calls Try.prog 86 #[.agg (cellsB l).toArray] w fun e w' => e = .returned (.int .u32 (takeN l : Nat)) ∧ Below w.heap.size w w' := by
  obtain ⟨a, b, c, d, rfl⟩ : ∃ a b c d, l = [a, b, c, d] := by
    match l, hl with
    | [a, b, c, d], _ => exact ⟨a, b, c, d, rfl⟩
  have ha : a < 256 := hok a (by simp)
  have hb : b < 256 := hok b (by simp)
  have hc : c < 256 := hok c (by simp)
  have hd : d < 256 := hok d (by simp)
  clear hok hl
  simp only [cellsB, encB, List.map_cons, List.map_nil]
  go_enter Try.func86, Try.ntmps86
  go_wp2
  refine wp_loop_rounds 5 ?_
  rw [rounds_succ]; go_wp2
  rw [rounds_succ]; go_wp2
  rw [rounds_succ]; go_wp2
  rw [rounds_succ]; go_wp2
  rw [rounds_succ]; go_wp2
  go_ret
  refine ⟨ret_u32 ?_, (Below.refl _ _).alloc (Nat.le_refl _) _⟩
  show bits .or .u32 (bits .or .u32 (bits .or .u32 (bits .or .u32 0 (a : Int)) ((b : Int) * 256)) ((c : Int) * 65536)) ((d : Int) * 16777216) = (takeN [a, b, c, d] : Nat)
  have h0 : bits .or .u32 0 (a : Int) = (a : Nat) := by
    have h := or_add (a := 0) (b := a) (k := 0) (by decide) (by omega)
    simpa using h
  have h1 := or_add (a := a) (b := b) (k := 8) (by omega) (by omega)
  have h2 := or_add (a := a + 2 ^ 8 * b) (b := c) (k := 16) (by omega) (by omega)
  have h3 := or_add (a := a + 2 ^ 8 * b + 2 ^ 16 * c) (b := d) (k := 24) (by omega) (by omega)
  rw [h0, show (b : Int) * 256 = ((2 ^ 8 * b : Nat) : Int) by omega, h1, show (c : Int) * 65536 = ((2 ^ 16 * c : Nat) : Int) by omega, h2, show (d : Int) * 16777216 = ((2 ^ 24 * d : Nat) : Int) by omega, h3]
  simp [takeN]

theorem takeN_four {n : Nat} (hn : n < 4294967296) : takeN (four n) = n := by
  simp [takeN, four]
  omega
theorem four_takeN {l : List Nat} (hl : l.length = 4) (hok : OkB l) : four (takeN l) = l := by
  obtain ⟨a, b, c, d, rfl⟩ : ∃ a b c d, l = [a, b, c, d] := by
    match l, hl with
    | [a, b, c, d], _ => exact ⟨a, b, c, d, rfl⟩
  have ha : a < 256 := hok a (by simp)
  have hb : b < 256 := hok b (by simp)
  have hc : c < 256 := hok c (by simp)
  have hd : d < 256 := hok d (by simp)
  simp [takeN, four]
  omega
theorem takeN_lt {l : List Nat} (hl : l.length = 4) (hok : OkB l) : takeN l < 4294967296 := by
  obtain ⟨a, b, c, d, rfl⟩ : ∃ a b c d, l = [a, b, c, d] := by
    match l, hl with
    | [a, b, c, d], _ => exact ⟨a, b, c, d, rfl⟩
  have ha : a < 256 := hok a (by simp)
  have hb : b < 256 := hok b (by simp)
  have hc : c < 256 := hok c (by simp)
  have hd : d < 256 := hok d (by simp)
  simp [takeN]
  omega
set_option maxRecDepth 100000 in
set_option maxHeartbeats 400000 in
theorem put_eq (n : Nat) (w : World) (hn : n < 4294967296) :
    Calls Try.prog 64 #[.int .u32 n] w fun e w' => e = .returned (.agg ((cellsB (four n)).toArray)) ∧ w' = (w.alloc (.cells (cellsB (four n)).toArray 152)).alloc (.cells (cellsB (four n)).toArray 152) := by
  have e : cellsB (four n) = [Value.int .u8 ((n : Int) % 256), Value.int .u8 ((n : Int) / 256 % 256), Value.int .u8 ((n : Int) / 65536 % 256), Value.int .u8 ((n : Int) / 16777216)] := by
    simp only [cellsB, four, encB, List.map_cons, List.map_nil]
    rw [show n / 16777216 % 256 = n / 16777216 by omega]
    rfl
  rw [e]
  clear e
  go_enter Try.func64, Try.ntmps64
  go_wp2
  refine wp_loop_rounds 5 ?_
  rw [rounds_succ]; go_wp2
  rw [rounds_succ]; go_wp2
  rw [rounds_succ]; go_wp2
  rw [rounds_succ]; go_wp2
  rw [rounds_succ]; go_wp2
  exact bodyPost_ret (v := .agg #[Value.int .u8 ((n : Int) % 256), Value.int .u8 ((n : Int) / 256 % 256), Value.int .u8 ((n : Int) / 65536 % 256), Value.int .u8 ((n : Int) / 16777216)]) (by simp [results, Try.results64, go_sem]) rfl ⟨rfl, rfl⟩

set_option maxRecDepth 100000 in
set_option maxHeartbeats 400000 in
theorem take_eq (l : List Nat) (hl : l.length = 4) (hok : OkB l) (w : World) :
    Calls Try.prog 86 #[.agg (cellsB l).toArray] w fun e w' => e = .returned (.int .u32 (takeN l : Nat)) ∧ w' = w.alloc (.cells (cellsB l).toArray 152) := by
  obtain ⟨a, b, c, d, rfl⟩ : ∃ a b c d, l = [a, b, c, d] := by
    match l, hl with
    | [a, b, c, d], _ => exact ⟨a, b, c, d, rfl⟩
  have ha : a < 256 := hok a (by simp)
  have hb : b < 256 := hok b (by simp)
  have hc : c < 256 := hok c (by simp)
  have hd : d < 256 := hok d (by simp)
  clear hok hl
  have h0 : bits .or .u32 0 (a : Int) = (a : Nat) := by
    have h := or_add (a := 0) (b := a) (k := 0) (by decide) (by omega)
    simpa using h
  have h1 := or_add (a := a) (b := b) (k := 8) (by omega) (by omega)
  have h2 := or_add (a := a + 2 ^ 8 * b) (b := c) (k := 16) (by omega) (by omega)
  have h3 := or_add (a := a + 2 ^ 8 * b + 2 ^ 16 * c) (b := d) (k := 24) (by omega) (by omega)
  have Hres : Hid (bits .or .u32 (bits .or .u32 (bits .or .u32 (bits .or .u32 0 (a : Int)) ((b : Int) * 256)) ((c : Int) * 65536)) ((d : Int) * 16777216) = (takeN [a, b, c, d] : Nat)) := by
    show _ = _
    rw [h0, show (b : Int) * 256 = ((2 ^ 8 * b : Nat) : Int) by omega, h1, show (c : Int) * 65536 = ((2 ^ 16 * c : Nat) : Int) by omega, h2, show (d : Int) * 16777216 = ((2 ^ 24 * d : Nat) : Int) by omega, h3]
    simp [takeN]
  clear h0 h1 h2 h3
  simp only [cellsB, encB, List.map_cons, List.map_nil]
  go_enter Try.func86, Try.ntmps86
  go_wp2
  refine wp_loop_rounds 5 ?_
  rw [rounds_succ]; go_wp2
  rw [rounds_succ]; go_wp2
  rw [rounds_succ]; go_wp2
  rw [rounds_succ]; go_wp2
  rw [rounds_succ]; go_wp2
  go_ret
  exact ⟨ret_u32 Hres.out, rfl⟩

theorem okB_four (n : Nat) : OkB (four n) := fun x hx => by
  simp [four] at hx
  omega
end Go.Proofs.Ytgcfofnlgdfmoaa
