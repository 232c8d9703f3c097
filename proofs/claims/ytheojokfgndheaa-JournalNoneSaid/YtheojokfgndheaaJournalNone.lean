/- Layer 7: JournalNone's walk. -/
import Derived.Test.YtheojokfgndheaaJlAwake
import Derived.Test.YtheojokfgndheaaDkNil
namespace Go.Proofs.Ytheojokfgndheaa
open Go.RowKit Go.Maps
namespace journalNone

set_option maxRecDepth 100000 in
set_option maxHeartbeats 1000000 in
theorem walk (A : Option Addr) (n c : Nat) (l : List Nat) (s : ByteArray) (w : World) (hn : n = l.length) (hr : RdB w w.heap.size A l) (hok : OkB l) :
    Calls Try.prog 8 #[.slice A n c, .string s] w fun e w' => e = .returned (.bool true) ∧ Below w.heap.size w w' := by
  have Hn := Lib.hid hn
  have Hr := Lib.hid hr
  have Hok := Lib.hid hok
  clear hn hr hok
  go_enter Try.func8, Try.ntmps8
  go_wp2_with fail
  refine (awake7_any w).mono ?_
  rintro e w1 ⟨rfl, hb⟩
  have HB := Lib.hid hb
  clear hb
  by_cases h1 : 100 < n
  · have d1 : decide ((100 : Int) < (n : Int)) = true := decide_eq_true (by omega)
    go_wp2
    go_ret
    exact ⟨rfl, HB.out⟩
  · have d1 : decide ((100 : Int) < (n : Int)) = false := decide_eq_false (by omega)
    by_cases h2 : 50 < s.size
    · have d2 : decide ((50 : Int) < (s.size : Int)) = true := decide_eq_true (by omega)
      go_wp2
      go_ret
      exact ⟨rfl, HB.out⟩
    · have d2 : decide ((50 : Int) < (s.size : Int)) = false := decide_eq_false (by omega)
      have hsz : s.size + 1 ≤ maxLen := by unfold maxLen; omega
      go_wp2_with fail
      refine (jlay_nil _ _).mono ?_
      rintro e w2 ⟨rfl, rfl⟩
      go_wp2_with fail
      refine (jtake_nil _ _).mono ?_
      rintro e w2 ⟨rfl, rfl⟩
      go_wp2_with fail
      refine (jscan_nil _ _ _ _).mono ?_
      rintro e w2 ⟨rfl, rfl⟩
      go_wp2_with fail
      refine (cnew_any _).mono ?_
      rintro e w2 ⟨rfl, hb, _, _⟩
      have HB2 := Lib.hid (HB.out.trans (hb.mono HB.out.size))
      clear hb
      go_wp2_with fail
      refine (jopen_nil1 _ _ _).mono ?_
      rintro e w3 ⟨rfl, rfl⟩
      go_wp2_with fail
      refine (new_any _).mono ?_
      rintro e w3 ⟨rfl, h5⟩
      have HB3 := Lib.hid (h5 ▸ HB2.out.alloc HB2.out.size _ : Below w.heap.size w w3)
      clear h5
      go_wp2_with fail
      refine (jopen_nil2 _ _ _).mono ?_
      rintro e w4 ⟨rfl, rfl⟩
      go_wp2_with fail
      refine (new_any _).mono ?_
      rintro e w4 ⟨rfl, h5⟩
      have D4 := Lib.hid (h5 ▸ Disk.new w3 : Disk w4 (fun k => k = w3.heap.size) w3.heap.size [] 0 0)
      have HB4 := Lib.hid (h5 ▸ HB3.out.alloc HB3.out.size _ : Below w.heap.size w w4)
      have hz4 : w4.heap.size = w3.heap.size + 1 := by rw [h5]; simp
      obtain ⟨gd, hgd⟩ : ∃ gd, gd = w3.heap.size := ⟨_, rfl⟩
      rw [← hgd] at D4
      rw [← hgd]
      have Hgd := Lib.hid hgd
      have Hz4 := Lib.hid hz4
      clear h5 hz4 hgd
      go_wp2_with fail
      refine (cnew_any _).mono ?_
      rintro e w5 ⟨rfl, hb, hz5, hT⟩
      have HB5 := Lib.hid (HB4.out.trans (hb.mono HB4.out.size))
      have D5 := Lib.hid (D4.out.below hb)
      have HT5 := Lib.hid hT
      obtain ⟨g, hg⟩ : ∃ g, g = w4.heap.size := ⟨_, rfl⟩
      rw [← hg] at HT5
      rw [← hg]
      have Hg := Lib.hid hg
      have Hz5 := Lib.hid hz5
      clear hb hz5 hT hg
      go_wp2_with fail
      obtain ⟨s1, hse⟩ : ∃ s1 : ByteArray, s1 = s ++ ⟨#[33]⟩ := ⟨_, rfl⟩
      rw [← hse]
      have hs1 : s1.size ≤ maxLen := by rw [hse, ByteArray.size_append]; exact hsz
      have hv1 : valueB s1 = false := by rw [hse]; exact value_bang s
      have HS1 := Lib.hid hs1
      have HV1 := Lib.hid hv1
      clear hs1 hv1 hse
      refine (jopen_none s1 _ D5.out HS1.out rfl).mono ?_
      rintro e w6 ⟨jb, rfl, hjb, hJ, hb⟩
      have HJ6 := Lib.hid hJ
      have HB6 := Lib.hid (HB5.out.trans (hb.mono HB5.out.size))
      have D6 := Lib.hid (D5.out.below hb)
      have HT6 := Lib.hid (HT5.out.below hb)
      have hjg : jb ≠ g := by have := Hg.out; have := Hz5.out; omega
      have Hjg : Hid (jb ≠ gd) := by show _ ≠ _; have := Hgd.out; have := Hz5.out; have := Hz4.out; omega
      have Hgg : Hid (g ≠ gd) := by show _ ≠ _; have := Hgd.out; have := Hg.out; have := Hz4.out; omega
      clear hJ hb hjb
      go_wp2_with fail
      refine (jappend_nil _ _).mono ?_
      rintro e w7 ⟨rfl, rfl⟩
      go_wp2_with fail
      refine (jsync_nil _).mono ?_
      rintro e w7 ⟨rfl, rfl⟩
      go_wp2_with fail
      refine (jsize_nil _).mono ?_
      rintro e w7 ⟨rfl, rfl⟩
      go_wp2_with fail
      refine (jname_nil _).mono ?_
      rintro e w7 ⟨rfl, rfl⟩
      go_wp2_with fail
      refine (jappend_any (by decide) A n c l w6.heap.size w6 HJ6.out hjg HT6.out Hn.out (by omega) (by decide) (by decide) ((Hr.out.below HB6.out).more HB6.out.size) (Nat.le_refl _) Hok.out (fun h0 a ha hag => ?_) 8 (fun w1 w' => Below w1.heap.size w1 w') (fun v w1 _ _ _ hJ1 => (append_name ⟨gd, 0, none⟩ s1 v w1 HV1.out).mono fun e w' ⟨he, hb⟩ => ⟨he, hJ1.below hb, hb⟩)).mono ?_
      · obtain ⟨bb, oo, e, hbb, _⟩ := Hr.out h0
        rw [ha] at e
        injection e with e
        rw [e] at hag
        have h1 : bb = g := hag
        have := Hg.out
        have := HB4.out.size
        omega
      rintro e w7 ⟨rfl, w1', ht, _, hJ7, hb7⟩
      have HJ7 := Lib.hid hJ7
      have D7 := Lib.hid ((D6.out.keep ht.only (fun i hi e => by subst hi; exact Hgg.out e.symm)).below hb7)
      have HB7 : Hid (Below w.heap.size w w7) := HB6.out.trans ((show Below w.heap.size w6 w1' from ⟨ht.grown.os, ht.grown.tape, ht.grown.output, ht.grown.size, fun k hk => ht.grown.block k (Nat.lt_of_lt_of_le hk HB6.out.size) (fun e => by injection e with e; have := Hg.out; have := HB4.out.size; omega)⟩).trans (hb7.mono (Nat.le_trans HB6.out.size ht.grown.size)))
      clear ht hJ7 hb7
      go_wp2_with fail
      refine (jsync_idle _ HJ7.out (fun w1 hb1 => loose_none s1 w1 (D7.out.below hb1) HS1.out rfl)).mono ?_
      rintro e w8 ⟨rfl, hb8⟩
      have HB8 := Lib.hid (HB7.out.trans (hb8.mono HB7.out.size))
      clear hb8
      go_wp2
      go_ret
      exact ⟨rfl, HB8.out⟩
end journalNone
end Go.Proofs.Ytheojokfgndheaa
