/- Layer 6: the statements' fixed fact. -/
import Derived.Test.YtheojokfgndheaaDkCrashAny
import Derived.OneCell
import Derived.Lib.SlBytesConst
namespace Go.Proofs.Ytheojokfgndheaa
open Go.RowKit Go.Maps

theorem Step.base {w w' : World} {S S' : Nat → Prop} {B : Nat} (h : Step w S w' S') (hS : ∀ k, S k → B ≤ k) (hB : B ≤ w.heap.size) : (∀ k, S' k → B ≤ k) ∧ Below B w w' :=
  ⟨fun k hk => (h.new k hk).elim (hS k) (Nat.le_trans hB), h.only.below hB hS⟩
theorem put_one {α : Type} (s : ByteArray) (f x : α) : putP [(s, f)] s x = [(s, x)] := by simp [putP, delP, insP, eqS_refl]
theorem find_one {α : Type} (s : ByteArray) (f : α) : findP [(s, f)] s = some f := by simp [findP, eqS_refl]
theorem rdB_lit (w : World) (t : TypeId) (fr : Nat × Nat) (l : List Nat) : RdB (w.alloc (.cells (cellsB l).toArray t fr)) (w.alloc (.cells (cellsB l).toArray t fr)).heap.size (some ⟨w.heap.size, 0, none⟩) l := fun _ =>
  ⟨w.heap.size, 0, rfl, by simp, fun i x hx => by
    rw [World.cell?_alloc_mark]
    have := cellsB_get hx
    simpa using this⟩
abbrev nmA : ByteArray := ⟨#[97]⟩
theorem nmA_value : valueB nmA = true := by decide +kernel
theorem nmA_size : nmA.size ≤ maxLen := by decide +kernel

set_option maxRecDepth 100000 in
set_option maxHeartbeats 1000000 in
theorem awake_any (w : World) : Calls Try.prog 9 #[] w fun e w' => e = .returned (.bool true) ∧ Below w.heap.size w w' := by
  have hcv := fun (w : World) (C : Array Value) (n c : Nat) => Lib.run_convert_bytes_const (P := Try.prog) w 30 5 C n c Try.underlying30 Try.underlying5
  go_enter Try.func9, Try.ntmps9
  go_wp2_with fail
  refine (new_any w).mono ?_
  rintro e w1 ⟨rfl, h1⟩
  have hd1 : Disk w1 (fun k => k = w.heap.size) w.heap.size [] 0 0 := h1 ▸ Disk.new w
  have hb1 : Below w.heap.size w w1 := h1 ▸ (Below.refl _ _).alloc (Nat.le_refl _) _
  have hz1 : w1.heap.size = w.heap.size + 1 := by rw [h1]; simp
  have D1 := Lib.hid hd1
  have B1 := Lib.hid hb1
  have Z1 := Lib.hid hz1
  clear hd1 hb1 hz1 h1
  go_wp2_with fail
  have hb2 : Below w1.heap.size w1 (w1.alloc (.cells #[.int .u8 120, .int .u8 121] 5 (2, 3))) := (Below.refl _ _).alloc (Nat.le_refl _) _
  have hr2 : RdB (w1.alloc (.cells #[.int .u8 120, .int .u8 121] 5 (2, 3))) (w1.alloc (.cells #[.int .u8 120, .int .u8 121] 5 (2, 3))).heap.size (some ⟨w1.heap.size, 0, none⟩) [120, 121] := rdB_lit w1 5 (2, 3) [120, 121]
  have B2 := Lib.hid (B1.out.trans (hb2.mono B1.out.size))
  have D2 := Lib.hid (D1.out.below hb2)
  clear hb2
  refine (append_ok (l := [120, 121]) _ D2.out nmA_value nmA_size (fun _ => by decide) rfl (fun x hx => by simp at hx; omega) (by decide) hr2 (by decide)).mono ?_
  rintro e w2 ⟨rfl, S2, d2, st2⟩
  change Disk w2 S2 w.heap.size [(nmA, ⟨[120, 121], 0⟩)] 1 0 at d2
  obtain ⟨hS2, hbb⟩ := st2.base (B := w.heap.size) (fun k hk => Nat.le_of_eq hk.symm) B2.out.size
  have B3 := Lib.hid (B2.out.trans hbb)
  have D3 := Lib.hid d2
  have HS2 := Lib.hid hS2
  clear d2 st2 hS2 hbb hr2 B2 D2 B1 D1
  go_wp2_with fail
  refine (sync_some _ D3.out nmA_size (find_one _ _) (by decide)).mono ?_
  rintro e w3 ⟨rfl, S3, d3, st3⟩
  rw [put_one] at d3
  obtain ⟨hS3, hbb⟩ := st3.base HS2.out B3.out.size
  have B4 := Lib.hid (B3.out.trans hbb)
  have D4 := Lib.hid d3
  have HS3 := Lib.hid hS3
  clear d3 st3 hS3 hbb HS2 B3 D3
  go_wp2_with fail
  have hb2 : Below w3.heap.size w3 (w3.alloc (.cells #[.int .u8 122] 5 (1, 2))) := (Below.refl _ _).alloc (Nat.le_refl _) _
  have hr2 : RdB (w3.alloc (.cells #[.int .u8 122] 5 (1, 2))) (w3.alloc (.cells #[.int .u8 122] 5 (1, 2))).heap.size (some ⟨w3.heap.size, 0, none⟩) [122] := rdB_lit w3 5 (1, 2) [122]
  have B5 := Lib.hid (B4.out.trans (hb2.mono B4.out.size))
  have D5 := Lib.hid (D4.out.below hb2)
  clear hb2
  have hh : had [(nmA, (⟨[120, 121], 2⟩ : Fl))] nmA = ⟨[120, 121], 2⟩ := by unfold had; rw [find_one]; rfl
  refine (append_ok (l := [122]) _ D5.out nmA_value nmA_size (fun _ => by decide) rfl (fun x hx => by simp at hx; omega) (by show (had [(nmA, (⟨[120, 121], 2⟩ : Fl))] nmA).by_.length + 1 ≤ _; rw [hh]; decide) hr2 (by decide)).mono ?_
  rintro e w4 ⟨rfl, S4, d4, st4⟩
  rw [put_one] at d4
  change Disk w4 S4 w.heap.size [(nmA, ⟨(had [(nmA, (⟨[120, 121], 2⟩ : Fl))] nmA).by_ ++ [122], (had [(nmA, (⟨[120, 121], 2⟩ : Fl))] nmA).syn⟩)] _ _ at d4
  rw [hh] at d4
  obtain ⟨hS4, hbb⟩ := st4.base HS3.out B5.out.size
  have B6 := Lib.hid (B5.out.trans hbb)
  have D6 := Lib.hid d4
  have HS4 := Lib.hid hS4
  clear d4 st4 hS4 hbb HS3 B4 D4 B5 D5 hr2 hh
  go_wp2_with fail
  refine (crash_any (ts := []) _ D6.out rfl (by decide) (fun h => absurd h (by decide)) (fun _ _ h => absurd h (by decide)) (fun _ h => absurd h (by simp))).mono ?_
  rintro e w5 ⟨rfl, S5, d5, st5⟩
  change Disk w5 S5 w.heap.size [(nmA, ⟨[120, 121], 2⟩)] _ _ at d5
  obtain ⟨hS5, hbb⟩ := st5.base HS4.out B6.out.size
  have B7 := Lib.hid (B6.out.trans hbb)
  have D7 := Lib.hid d5
  clear d5 st5 hS5 hbb HS4 B6 D6
  go_wp2_with fail
  refine (read_some _ D7.out nmA_size (find_one _ _)).mono ?_
  rintro e w6 ⟨v, rfl, o6, b6⟩
  obtain ⟨A6, c6, rfl⟩ := ownB_slice o6
  obtain ⟨r1, r2, r3⟩ := rdB_of_own o6
  have hcs := conv_any (w := w6) (n := 2) (c := c6) r1 r2 r3
  have hstr : strB [120, 121] = ⟨#[120, 121]⟩ := by rfl
  change (convert _ _ (.slice A6 2 c6)).run _ _ = .ok (.string (strB [120, 121])) _ at hcs
  rw [hstr] at hcs
  have B8 := Lib.hid (B7.out.trans (b6.mono B7.out.size))
  clear o6 b6 r1 r2 r3 hstr
  go_wp2
  go_ret
  exact ⟨rfl, B8.out⟩
end Go.Proofs.Ytheojokfgndheaa
