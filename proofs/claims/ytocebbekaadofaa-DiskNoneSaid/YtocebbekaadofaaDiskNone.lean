/- Layer 6: DiskNone's walk. -/
import Derived.Test.YtocebbekaadofaaDkNil
namespace Go.Proofs.Ytocebbekaadofaa
open Go.RowKit Go.Maps
namespace diskNone

set_option maxRecDepth 100000 in
set_option maxHeartbeats 2000000 in
theorem walk (s : ByteArray) (A : Option Addr) (n c : Nat) (z : Int) (w : World) (hs : s.size ≤ maxLen) :
    Calls Try.prog 6 #[.string s, .slice A n c, .int .i64 z] w fun e w' => e = .returned (.bool true) ∧ Below w.heap.size w w' := by
  have HS := Lib.hid hs
  clear hs
  go_enter Try.func6, Try.ntmps6
  go_wp2_with fail
  refine (awake_any w).mono ?_
  rintro e w1 ⟨rfl, hb⟩
  have HB := Lib.hid hb
  clear hb
  by_cases h1 : 100 < n
  · have d1 : decide ((100 : Int) < (n : Int)) = true := decide_eq_true (by omega)
    go_wp2
    go_ret
    exact ⟨rfl, HB.out⟩
  · have d1 : decide ((100 : Int) < (n : Int)) = false := decide_eq_false (by omega)
    by_cases h2 : 50 < s.size
    · have d2 : decide ((50 : Int) < (s.size : Int)) = true := decide_eq_true (by omega)
      go_wp2
      go_ret
      exact ⟨rfl, HB.out⟩
    · have d2 : decide ((50 : Int) < (s.size : Int)) = false := decide_eq_false (by omega)
      go_wp2_with fail
      refine (crash_nil _ _).mono ?_
      rintro e w2 ⟨rfl, hb⟩
      have HB2 := Lib.hid ((HB.out.alloc HB.out.size _).trans (hb.mono (by have := HB.out.size; simp; omega)))
      clear hb
      go_wp2_with fail
      refine (read_nil _ _).mono ?_
      rintro e w3 ⟨rfl, hb⟩
      have HB3 := Lib.hid (HB2.out.trans (hb.mono HB2.out.size))
      clear hb
      go_wp2_with fail
      refine (counts_nil _).mono ?_
      rintro e w4 ⟨rfl, hb⟩
      have HB4 := Lib.hid (HB3.out.trans (hb.mono HB3.out.size))
      clear hb
      go_wp2_with fail
      refine (new_any _).mono ?_
      rintro e w5 ⟨rfl, h5⟩
      have D5 := Lib.hid (h5 ▸ Disk.new w4 : Disk w5 (fun k => k = w4.heap.size) w4.heap.size [] 0 0)
      have HB5 := Lib.hid (h5 ▸ HB4.out.alloc HB4.out.size _ : Below w.heap.size w w5)
      clear h5
      go_wp2_with fail
      refine (append_nil _ _ _).mono ?_
      rintro e w6 ⟨rfl, hb⟩
      have HB6 := Lib.hid (HB5.out.trans (hb.mono HB5.out.size))
      have D6 := Lib.hid (D5.out.below hb)
      clear hb
      go_wp2_with fail
      refine (sync_nil _ _).mono ?_
      rintro e w7 ⟨rfl, hb⟩
      have HB7 := Lib.hid (HB6.out.trans (hb.mono HB6.out.size))
      have D7 := Lib.hid (D6.out.below hb)
      clear hb
      go_wp2_with fail
      refine (cut_nil _ _ _).mono ?_
      rintro e w8 ⟨rfl, hb⟩
      have HB8 := Lib.hid (HB7.out.trans (hb.mono HB7.out.size))
      have D8 := Lib.hid (D7.out.below hb)
      clear hb
      go_wp2_with fail
      refine (rename_nil _ _ _).mono ?_
      rintro e w9 ⟨rfl, hb⟩
      have HB9 := Lib.hid (HB8.out.trans (hb.mono HB8.out.size))
      have D9 := Lib.hid (D8.out.below hb)
      clear hb
      go_wp2_with fail
      refine (remove_nil _ _).mono ?_
      rintro e w10 ⟨rfl, hb⟩
      have HB10 := Lib.hid (HB9.out.trans (hb.mono HB9.out.size))
      have D10 := Lib.hid (D9.out.below hb)
      clear hb
      go_wp2_with fail
      refine (names_nil _).mono ?_
      rintro e w11 ⟨rfl, hb⟩
      have HB11 := Lib.hid (HB10.out.trans (hb.mono HB10.out.size))
      have D11 := Lib.hid (D10.out.below hb)
      clear hb
      go_wp2_with fail
      refine (loose_nil _ _).mono ?_
      rintro e w12 ⟨rfl, hb⟩
      have HB12 := Lib.hid (HB11.out.trans (hb.mono HB11.out.size))
      have D12 := Lib.hid (D11.out.below hb)
      clear hb
      go_wp2_with fail
      refine (copy_nil _).mono ?_
      rintro e w13 ⟨rfl, h5⟩
      have C13 := Lib.hid (h5 ▸ Disk.new w12 : Disk w13 (fun k => k = w12.heap.size) w12.heap.size [] 0 0)
      have HB13 := Lib.hid (h5 ▸ HB12.out.alloc HB12.out.size _ : Below w.heap.size w w13)
      have D13 := Lib.hid (h5 ▸ D12.out.below ((Below.refl _ _).alloc (Nat.le_refl _) _) : Disk w13 (fun k => k = w4.heap.size) w4.heap.size [] 0 0)
      clear h5
      go_wp2_with fail
      refine (names_any _ C13.out).mono ?_
      rintro e w14 ⟨v, rfl, ho, hb⟩
      obtain ⟨V, vc, rfl⟩ := ownB_slice ho
      have HB14 := Lib.hid (HB13.out.trans (hb.mono HB13.out.size))
      have D14 := Lib.hid (D13.out.below hb)
      clear hb ho
      go_wp2_with fail
      have hvb := value_bang s
      refine (append_name _ _ _ _ hvb).mono ?_
      rintro e w15 ⟨rfl, hb⟩
      have HB15 := Lib.hid (HB14.out.trans (hb.mono HB14.out.size))
      have D15 := Lib.hid (D14.out.below hb)
      clear hb hvb
      go_wp2_with fail
      refine (sync_none _ _ D15.out HS.out rfl).mono ?_
      rintro e w16 ⟨rfl, hb⟩
      have HB16 := Lib.hid (HB15.out.trans (hb.mono HB15.out.size))
      have D16 := Lib.hid (D15.out.below hb)
      clear hb
      go_wp2_with fail
      refine (names_any _ D16.out).mono ?_
      rintro e w17 ⟨v, rfl, ho, hb⟩
      obtain ⟨V2, vc2, rfl⟩ := ownB_slice ho
      have HB17 := Lib.hid (HB16.out.trans (hb.mono HB16.out.size))
      clear hb ho
      go_wp2
      go_ret
      exact ⟨rfl, HB17.out⟩
end diskNone
end Go.Proofs.Ytocebbekaadofaa
