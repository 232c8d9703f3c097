/- Layer 7: JournalLong's walk. -/
import Derived.Test.YtheojokfgndheaaJlAwake
namespace Go.Proofs.Ytheojokfgndheaa
open Go.RowKit Go.Maps
theorem own_cap7 {w : World} {base : Nat} {e : TypeId} {size n c : Nat} {A : Option Addr} {xs : List Value} (h : w.ownsRow base e size (.slice A n c) n xs) : n ≤ c := by
  rcases h.2 with ⟨e1, rfl⟩ | ⟨g, cap, cur, e1, _, _, hnc, _⟩
  · exact Nat.zero_le _
  · injection e1 with _ _ e3
    omega
abbrev nmJ : ByteArray := ⟨#[106]⟩
theorem nmJ_size : nmJ.size ≤ maxLen := by decide +kernel
/-- bytes whose length says too much -/
theorem takeJ_much (l : List Nat) : takeJ ([1, 0, 8, 0, 0, 0, 0, 0] ++ l) = none := by
  have h4 : ([1, 0, 8, 0, 0, 0, 0, 0] ++ l).take 4 = [1, 0, 8, 0] := rfl
  have hn : takeN [1, 0, 8, 0] = 524289 := by decide
  unfold takeJ
  rw [if_neg (by rw [List.length_append]; show ¬ (8 + l.length < 8); omega), h4, hn, if_pos (.inl (by decide))]
namespace journalLong

set_option maxRecDepth 100000 in
set_option maxHeartbeats 1000000 in
theorem walk (x : Nat) (A : Option Addr) (n c : Nat) (l : List Nat) (w : World) (hx : x < 256) (hn : n = l.length) (hr : RdB w w.heap.size A l) (hok : OkB l) :
    Calls Try.prog 7 #[.int .u8 x, .slice A n c] w fun e w' => e = .returned (.bool true) ∧ Below w.heap.size w w' := by
  obtain ⟨i0, hi0, hz0, hz1, hz2⟩ := info_parts Try.infoB
  obtain ⟨N, hN⟩ : ∃ N, N = 524289 + x := ⟨_, rfl⟩
  obtain ⟨MC, hMC⟩ : ∃ MC, MC = madeCells (Value.int .u8 0).cells ((524289 + (x : Int)).toNat * i0.size) := ⟨_, rfl⟩
  have hmk : ∀ W : World, (Instr.makeSlice 30 (.int .i64 (524289 + (x : Int))) (.int .i64 (524289 + (x : Int)))).run Try.prog W = .ok (.slice (some ⟨W.heap.size, 0, none⟩) N N) (W.alloc (.cells MC 5)) := fun W => by
    have := run_make W 30 5 i0 _ Try.underlying30 hi0 hz0 .i64 .i64 (524289 + (x : Int)) (524289 + (x : Int)) (by omega) (Int.le_refl _) (by rw [hz2]; omega) (by omega)
    rw [this, hMC, show (524289 + (x : Int)).toNat = N by omega]
  have hw1 : IntKind.i64.wrap (524289 + (x : Int)) = 524289 + (x : Int) := by rw [IntKind.wrap_i64]; omega
  have hw2 : IntKind.i64.wrap (x : Int) = x := by rw [IntKind.wrap_i64]; omega
  have HNb : Hid (524288 < N) := by show _ < _; omega
  have Hn := Lib.hid hn
  have Hr := Lib.hid hr
  have Hok := Lib.hid hok
  clear hn hr hok hN hMC
  go_enter Try.func7, Try.ntmps7
  go_wp2_with fail
  refine (awake7_any w).mono ?_
  rintro e w1 ⟨rfl, hb⟩
  have HB := Lib.hid hb
  clear hb
  by_cases h1 : 100 < n
  · have d1 : decide ((100 : Int) < (n : Int)) = true := decide_eq_true (by omega)
    go_wp2
    go_ret
    exact ⟨rfl, HB.out⟩
  · have d1 : decide ((100 : Int) < (n : Int)) = false := decide_eq_false (by omega)
    go_wp2_with fail
    refine (cnew_any _).mono ?_
    rintro e w2 ⟨rfl, hb, hz, hT⟩
    have HB2 := Lib.hid (HB.out.trans (hb.mono HB.out.size))
    have HT2 := Lib.hid hT
    obtain ⟨g, hg⟩ : ∃ g, g = w1.heap.size := ⟨_, rfl⟩
    rw [← hg] at HT2
    rw [← hg]
    have Hg := Lib.hid hg
    have Hz := Lib.hid hz
    clear hb hz hT hg
    go_wp2_with fail
    have hb3 : Below w2.heap.size w2 (w2.alloc (.cells MC 5)) := (Below.refl _ _).alloc (Nat.le_refl _) _
    refine (jlay_long ⟨g, 0, none⟩ _ N N HNb.out _).mono ?_
    rintro e w3 ⟨rfl, rfl⟩
    have HB3 := Lib.hid (HB2.out.trans (hb3.mono HB2.out.size))
    have HT3 := Lib.hid (HT2.out.below hb3)
    clear hb3
    generalize (w2.alloc (.cells MC 5)) = w3 at *
    have hb4 : Below w3.heap.size w3 (w3.alloc (.cells #[.int .u8 1, .int .u8 0, .int .u8 8, .int .u8 0, .int .u8 0, .int .u8 0, .int .u8 0, .int .u8 0] 5)) := (Below.refl _ _).alloc (Nat.le_refl _) _
    have hs4 : Src (w3.alloc (.cells #[.int .u8 1, .int .u8 0, .int .u8 8, .int .u8 0, .int .u8 0, .int .u8 0, .int .u8 0, .int .u8 0] 5)) A n 1 (cellsB l) := src_of_rdB ((Hr.out.below HB3.out).below (hb4.mono HB3.out.size)) Hn.out
    have HS4 := Lib.hid hs4
    have HB4 := Lib.hid (HB3.out.trans (hb4.mono HB3.out.size))
    have HT4 := Lib.hid (HT3.out.below hb4)
    clear hs4 hb4
    go_wp2_with (at_builtin; refine wpList_append_src (base := w3.heap.size) rfl _ _ rfl Try.underlying30 hi0 hz0 hz1 hz2 rfl (by decide) rfl (World.ownsRow_lit w3 #[.int .u8 1, .int .u8 0, .int .u8 8, .int .u8 0, .int .u8 0, .int .u8 0, .int .u8 0, .int .u8 0] 8 (Nat.le_refl _) (by decide) rfl) rfl HS4.out (cellsB_one _) (by unfold maxLen; omega) (by omega) (by simp) ?_; intro v5 w5 ho5 hg5 _; obtain ⟨A5, c5, rfl⟩ := ownB_slice ho5; replace ho5 := Lib.hid ho5; replace hg5 := Lib.hid hg5)
    obtain ⟨big, hbig⟩ : ∃ big, big = [1, 0, 8, 0, 0, 0, 0, 0] ++ l := ⟨_, rfl⟩
    have hcells : [Value.int .u8 1, .int .u8 0, .int .u8 8, .int .u8 0, .int .u8 0, .int .u8 0, .int .u8 0, .int .u8 0] ++ cellsB l = cellsB big := by rw [hbig, cellsB_append]; rfl
    have ho6 : w5.ownsRow w3.heap.size 5 1 (.slice A5 (8 + n) c5) (8 + n) (cellsB big) := by rw [← hcells]; exact ho5.out
    have hlen : 8 + n = big.length := by rw [hbig, List.length_append, Hn.out]; rfl
    have hokb : OkB big := by
      rw [hbig]
      refine OkB.append (fun z hz => ?_) Hok.out
      simp at hz
      omega
    have hno : takeJ big = none := by rw [hbig]; exact takeJ_much l
    obtain ⟨r1, _, _⟩ := rdB_of_own ho6
    have hgw3 := HT3.out.lt
    have HT5 := Lib.hid (HT4.out.row hg5.out (show some w3.heap.size ≠ some g from fun e => by injection e with e; omega))
    have HB5 : Hid (Below w.heap.size w w5) := HB4.out.grown hg5.out HB4.out.size (fun k hk => by have e : some w3.heap.size = some k := hk; injection e with e; have := HB3.out.size; omega)
    have hoff : Off A5 g big := fun h0 a ha hag => by
      obtain ⟨r, cap, hv, hrb, hrl⟩ := ho6.form (by omega)
      injection hv with hv
      rw [ha] at hv
      injection hv with hv
      rw [hv] at hag
      have : r = g := hag
      omega
    have hcap := own_cap7 ho6
    have Hno := Lib.hid hno
    have HJ := Lib.hid (jtake_any g 0 0 0 (by decide) A5 (8 + n) c5 big w5.heap.size w5 HT5.out hlen hcap (by omega) (by decide) (by decide) r1 (Nat.le_refl _) hokb hoff)
    clear hbig hcells ho6 hlen hokb hno r1 hgw3 hoff hcap ho5 hg5
    refine HJ.out.mono ?_
    rintro e w6 (⟨_, rfl, _, ht6⟩ | ⟨y, v, hyes, _⟩)
    · have HB6 : Hid (Below w.heap.size w w6) := HB5.out.trans ⟨ht6.grown.os, ht6.grown.tape, ht6.grown.output, ht6.grown.size, fun k hk => ht6.grown.block k (Nat.lt_of_lt_of_le hk HB5.out.size) (fun e => by injection e with e; have := Hg.out; have := HB.out.size; omega)⟩
      clear ht6
      go_wp2_with fail
      refine (new_any _).mono ?_
      rintro e w7 ⟨rfl, h5⟩
      have D7 := Lib.hid (h5 ▸ Disk.new w6 : Disk w7 (fun k => k = w6.heap.size) w6.heap.size [] 0 0)
      have HB7 := Lib.hid (h5 ▸ HB6.out.alloc HB6.out.size _ : Below w.heap.size w w7)
      obtain ⟨gd, hgd⟩ : ∃ gd, gd = w6.heap.size := ⟨_, rfl⟩
      rw [← hgd] at D7
      rw [← hgd]
      clear h5 hgd
      go_wp2_with fail
      refine (jopen_none nmJ _ D7.out nmJ_size rfl).mono ?_
      rintro e w8 ⟨jb, rfl, -, hJ, hb⟩
      have HJ8 := Lib.hid hJ
      have HB8 := Lib.hid (HB7.out.trans (hb.mono HB7.out.size))
      have D8 := Lib.hid (D7.out.below hb)
      clear hJ hb
      go_wp2_with fail
      have hb9 : Below w8.heap.size w8 (w8.alloc (.cells MC 5)) := (Below.refl _ _).alloc (Nat.le_refl _) _
      refine (jappend_long _ N N HNb.out _ (HJ8.out.below hb9)).mono ?_
      rintro e w9 ⟨rfl, rfl⟩
      have HJ9 := Lib.hid (HJ8.out.below hb9)
      have HB9 := Lib.hid (HB8.out.trans (hb9.mono HB8.out.size))
      have D9 := Lib.hid (D8.out.below hb9)
      clear hb9
      generalize (w8.alloc (.cells MC 5)) = w9 at *
      go_wp2_with fail
      refine (jsize_any (n := 0) (z := 14) _ HJ9.out (fun w1 hb1 => (read_none w1 (D9.out.below hb1) nmJ_size rfl).mono fun e w' ⟨he, hb⟩ => ⟨none, 0, he, hb⟩)).mono ?_
      rintro e w10 ⟨rfl, hb⟩
      have HB10 := Lib.hid (HB9.out.trans (hb.mono HB9.out.size))
      clear hb
      go_wp2
      go_ret
      exact ⟨rfl, HB10.out⟩
    · rw [Hno.out] at hyes
      cases hyes
end journalLong
end Go.Proofs.Ytheojokfgndheaa
