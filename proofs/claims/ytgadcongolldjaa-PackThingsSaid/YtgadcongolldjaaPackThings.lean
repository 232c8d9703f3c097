/- The walk of watchfirelaw03.PackThings. -/
import Derived.Test.YtgadcongolldjaaPkAwake
import Derived.Test.YtgadcongolldjaaPkMany
namespace Go.Proofs.Ytgadcongolldjaa.packThings
open Go.RowKit
open Go.Proofs.Ytgadcongolldjaa

set_option maxRecDepth 100000 in
set_option maxHeartbeats 1500000 in
theorem walk (A : Option Addr) (n c : Nat) (l : List Th) (hn : n = l.length) (hok : ∀ x ∈ l, OkTh x) (A2 : Option Addr) (m c2 : Nat) (r : List Nat) (hm : m = r.length) (hA2 : A2 = none → m = 0) (hokr : OkB r) (w : World) (hrd : RdT w w.heap.size A l) (hrr : RdB w w.heap.size A2 r) :
    Calls Try.prog 3 #[.slice A n c, .slice A2 m c2] w fun e w' => e = .returned (.bool true) ∧ Below w.heap.size w w' := by
  obtain ⟨i0, hi, hz0, hz1, hz2⟩ := info_parts Try.infoB
  have Hn := Lib.hid hn
  have Hok := Lib.hid hok
  have Hr := Lib.hid hrd
  have Hm := Lib.hid hm
  have HA2 := Lib.hid hA2
  have Hokr := Lib.hid hokr
  have Hrr := Lib.hid hrr
  clear hn hok hrd hm hA2 hokr hrr
  go_enter Try.func3, Try.ntmps3
  go_wp2_with fail
  refine (pawake_any _).mono ?_
  rintro e1 w1 ⟨rfl, hb1⟩
  have hsz1 := hb1.size
  by_cases hn1 : 30 < n
  · go_wp2
    go_ret
    exact ⟨rfl, hb1⟩
  by_cases hm1 : 100 < m
  · go_wp2
    go_ret
    exact ⟨rfl, hb1⟩
  have H0 := Lib.hid (Two.new hb1 26)
  go_wp2
  go_loopw [6, 26] (fun vw iv wr => ∃ k : Nat, k ≤ n ∧ iv = .int .i64 k ∧ Hid (Two w wr w1.heap.size vw (encL (l.take k))) ∧ Hid ((encL (l.take k)).length ≤ 310 * k) ∧ Hid (∀ (j : Nat) (x : Th), j < k → l[j]? = some x → x.2.2.size ≤ 300)) (fun _ iv _ => n - (intOf iv).toNat)
  case atStart => exact ⟨0, by omega, rfl, H0.out, by show _ ≤ _; simp [encL], fun j x hj => by omega⟩
  case round =>
    obtain ⟨k, hk, rfl, HT, HL, Hs⟩ := hrel
    by_cases hlt : k < n
    · obtain ⟨b, o, x, rfl, hb, hx, q0, q1, q2⟩ := (Hr.out.below HT.out.blw).at_ (k := k) (by have := Hn.out; omega)
      have hxo := Hok.out x (List.mem_iff_getElem?.2 ⟨k, hx⟩)
      obtain ⟨xk, xn, xs⟩ := x
      simp only at q0 q1 q2
      have cb0 : (wr.alloc (.cells #[.int .u8 xk, .int .u64 xn, .string xs] 29)).cell? ⟨wr.heap.size, 0, none⟩ = some (.int .u8 xk) := by rw [World.cell?_alloc_at _ _ _ _ rfl]; rfl
      have cb1 : (wr.alloc (.cells #[.int .u8 xk, .int .u64 xn, .string xs] 29)).cell? ⟨wr.heap.size, 1, none⟩ = some (.int .u64 xn) := by rw [World.cell?_alloc_at _ _ _ _ rfl]; rfl
      have cb2 : (wr.alloc (.cells #[.int .u8 xk, .int .u64 xn, .string xs] 29)).cell? ⟨wr.heap.size, 2, none⟩ = some (.string xs) := by rw [World.cell?_alloc_at _ _ _ _ rfl]; rfl
      by_cases hs3 : 300 < xs.size
      · go_wp2
        go_ret
        exact ⟨rfl, HT.out.blw.alloc HT.out.blw.size _⟩
      have HT1 := Lib.hid (HT.out.below ((Below.refl _ wr).alloc (Nat.le_refl _) (.cells #[.int .u8 xk, .int .u64 xn, .string xs] 29)))
      have Hx := Lib.hid hx
      have Hxo := Lib.hid hxo
      have Hs3 := Lib.hid hs3
      have hkn := Nat.le_trans HL.out (Nat.mul_le_mul_left 310 hk)
      have Hlen := Lib.hid (thingB_len hxo)
      obtain ⟨⟨v, hv, hd⟩, ho, hbl⟩ := HT1.out
      have Hv := Lib.hid hv
      have Hd := Lib.hid hd
      have Ho := Lib.hid ho
      have Hbl := Lib.hid hbl
      clear hv hd ho hbl hx hxo HT1 HT
      have hel : (encL (l.take k)).length ≤ 9300 := by omega
      have htl : (thingB xk xn xs).length ≤ 310 := by have h : (thingB xk xn xs).length ≤ 10 + xs.size := Hlen.out; omega
      have Hel := Lib.hid hel
      have Htl := Lib.hid htl
      clear hel htl hkn
      go_wp2_with fail
      refine (put_any w1.heap.size v (encL (l.take k)) xk xn Hxo.out.1 Hxo.out.2.1 xs (by omega) _ Hv.out (by have := Hel.out; omega)).mono ?_
      rintro e1 w2 ⟨v2, rfl, ho2, hP⟩
      obtain ⟨v', hv', hd', ho', hb'⟩ := two_put hsz1 Hv.out Hd.out Ho.out Hbl.out hP
      have Hv' := Lib.hid hv'
      have Hd' := Lib.hid hd'
      have Ho' := Lib.hid ho'
      have Hb' := Lib.hid hb'
      have hw12 : w1.heap.size + 1 ≤ w2.heap.size := hv'.lt
      obtain ⟨A4, c4, rfl⟩ := ownB_slice ho2
      have Hsrc := Lib.hid (src_of_rdB (RdB.of_own ho2) rfl)
      clear hv' hd' ho' hb' ho2 hP Hv Hd Ho Hbl cb0 cb1 cb2
      go_wp2_with (at_builtin; refine wpList_append_src (base := w1.heap.size + 1) rfl _ _ rfl Try.underlying23 hi hz0 hz1 hz2 rfl (by decide) rfl Ho'.out rfl Hsrc.out (cellsB_one _) (by have := Hel.out; have := Htl.out; unfold maxLen; omega) (by have := Hel.out; have := Htl.out; omega) hw12 ?_; intro v3 w3 hr3 hg3 hb3; replace hr3 : Hid (Two w w3 w1.heap.size v3 (encL (l.take k) ++ thingB xk xn xs)) := Lib.hid (two_app hsz1 Hv'.out Hd'.out Ho'.out Hb'.out hr3 hg3 hb3); clear hg3 hb3)
      refine ⟨⟨k + 1, by omega, by go_num, ?_, ?_, fun j y hj hy => ?_⟩, by simp [intOf]; omega⟩
      · show Two _ _ _ _ _
        rw [encL_take Hx.out]; exact hr3.out
      · show _ ≤ _
        rw [encL_take Hx.out, List.length_append]
        have := HL.out; have := Htl.out
        show (encL (l.take k)).length + (thingB xk xn xs).length ≤ _
        omega
      · by_cases hjk : j = k
        · subst hjk
          have h1 := Hx.out
          rw [hy] at h1
          injection h1 with h1
          subst h1
          have := Hs3.out
          show xs.size ≤ 300
          omega
        · exact Hs.out j y (by omega) hy
    · have hkn : k = n := by omega
      subst hkn
      have HTn : Hid (Two w wr w1.heap.size u6 (encL l)) := by
        have h := HT.out
        rw [List.take_of_length_le (by have := Hn.out; omega)] at h
        exact h
      have hle : (encL l).length ≤ 9300 := by
        have h := HL.out
        rw [List.take_of_length_le (by have := Hn.out; omega)] at h
        omega
      have Hle := Lib.hid hle
      have HE := Lib.hid (encL_ok Hok.out)
      obtain ⟨⟨v, hv, hd⟩, ho, hbl⟩ := HTn.out
      have Hv := Lib.hid hv
      have Ho := Lib.hid ho
      have Hbl := Lib.hid hbl
      have hszr := hbl.size
      clear hv hd ho hbl HT HTn HL hle
      obtain ⟨A6, c6, rfl⟩ := ownB_slice Ho.out
      go_wp2_with fail
      refine (wbytes_any w1.heap.size v (encL l) wr Hv.out (by have := Hle.out; omega)).mono ?_
      rintro e1 w2 ⟨v2, rfl, ho2, hb2⟩
      obtain ⟨A4, c4, rfl⟩ := ownB_slice ho2
      have hbe : Below w2.heap.size w2 (w2.alloc (.cells #[] 5)) := (Below.refl _ _).alloc (Nat.le_refl _) _
      have Hb2 := Lib.hid (Hbl.out.trans (hb2.mono hszr))
      have hsz2 := Hb2.out.size
      have Hrb := Lib.hid (RdB.of_own ho2)
      have HA4 : Hid (A4 = none → (encL l).length = 0) := fun e => by subst e; exact (own_nil ho2).1
      have HA6 : Hid (A6 = none → (encL l).length = 0) := fun e => by subst e; exact (own_nil Ho.out).1
      have Hrw := Lib.hid (RdB.of_own (ownB_below Ho.out hb2))
      have HS1 := Lib.hid (src_of_rdB (Hrb.out.below hbe) rfl)
      have hRr : ∀ w3, Below w2.heap.size w2 w3 → Src w3 A2 m 1 (cellsB r) := fun w3 h => src_of_rdB (Hrr.out.below (Hb2.out.trans (h.mono hsz2))) Hm.out
      have HRr := Lib.hid hRr
      clear ho2 hb2 Hv Ho Hbl hRr
      go_wp2_with (first
        | (at_builtin; refine wpList_append_src (base := w2.heap.size) rfl _ _ rfl Try.underlying23 hi hz0 hz1 hz2 rfl (by decide) rfl (World.ownsRow_made _ #[] 0 (Nat.le_refl _) (Nat.zero_le _) rfl) rfl HS1.out (cellsB_one _) (by have := Hle.out; unfold maxLen; omega) (by have := Hle.out; omega) (by simp) ?_; intro v3 w3 hr3 hg3 hb3; replace hg3 : Below w2.heap.size w2 w3 := hbe.grown hg3 (by simp) (fun q hq => by cases hq; exact Nat.le_refl _); replace hr3 := Lib.hid hr3; clear hb3)
        | (at_builtin; refine wpList_append_src (base := w2.heap.size) rfl _ _ rfl Try.underlying23 hi hz0 hz1 hz2 rfl (by decide) rfl hr3.out rfl (HRr.out _ hg3) (cellsB_one _) (by have := Hle.out; unfold maxLen; omega) (by have := Hle.out; omega) hg3.size ?_; intro v4 w4 hr4 hg4 hb4; replace hg4 : Below w2.heap.size w2 w4 := hg3.grown hg4 hg3.size (fun q hq => (hr3.out.lt q hq).1); replace hr4 := Lib.hid hr4; clear hb4)
        | fail)
      obtain ⟨A7, c7, rfl⟩ := ownB_slice hr4.out
      have hrr7 : RdB w4 w4.heap.size A7 (encL l ++ r) := RdB.of_own (by have h := hr4.out; rwa [List.nil_append, ← cellsB_append] at h)
      have hA7 : A7 = none → 0 + (encL l).length + m = 0 := fun e => by subst e; exact (own_nil hr4.out).1
      have Hk := Lib.hid (rread_any A7 (0 + (encL l).length + m) c7 (encL l ++ r) w4.heap.size w4 (by rw [List.length_append, Hm.out, Nat.zero_add]) hA7 (by have := Hle.out; omega) hrr7 (Nat.le_refl _) (OkB.append HE.out Hokr.out))
      have hsz4 := hg4.size
      have Hg4 := Lib.hid hg4
      clear hr3 hg3 hrr7 hA7 HS1 HRr hbe hr4 hg4
      refine Hk.out.mono ?_
      clear Hk
      rintro e1 w5 ⟨g, rfl, hR, hg, hb5⟩
      have hgb : w2.heap.size ≤ g := by omega
      have hb25 : Below w2.heap.size w2 w5 := Hg4.out.trans (hb5.mono hsz4)
      have Hb5 := Lib.hid (Hb2.out.trans (hb25.mono hsz2))
      have Hrb5 := Lib.hid (Hrb.out.below hb25)
      have Hrw5 := Lib.hid (Hrw.out.below hb25)
      have H5 := Lib.hid hR
      clear hR hb5 hb25 Hrb Hrw Hg4 Hb2
      obtain ⟨E, hE⟩ : ∃ E, (encL l).length = E := ⟨_, rfl⟩
      have HE2 := Lib.hid hE
      rw [hE] at HA4 HA6 ⊢
      clear hE
      go_wp2
      go_loopw [48] (fun iv wr => ∃ j : Nat, j ≤ k ∧ iv = .int .i64 j ∧ Hid (Rdr wr g (encL (l.drop j) ++ r) 0) ∧ Hid (RdB wr w2.heap.size A4 (encL l)) ∧ Hid (RdB wr w2.heap.size A6 (encL l)) ∧ Hid (Below w.heap.size w wr)) (fun iv _ => k - (intOf iv).toNat)
      case atStart => exact ⟨0, by omega, rfl, H5.out, Hrb5.out, Hrw5.out, Hb5.out⟩
      case round =>
        obtain ⟨j, hj, rfl, HR, HB4, HB6, HW⟩ := hrel
        have hgr := HR.out.lt
        by_cases hlt : j < k
        · obtain ⟨b, o, x, rfl, hb, hx, q0, q1, q2⟩ := (Hr.out.below HW.out).at_ (k := j) (by have := Hn.out; omega)
          have hxo := Hok.out x (List.mem_iff_getElem?.2 ⟨j, hx⟩)
          have hxs := Hs.out j x hlt hx
          have hdr := encL_drop hx
          obtain ⟨xk, xn, xs⟩ := x
          simp only at q0 q1 q2 hxs hdr
          have cb0 : (wr.alloc (.cells #[.int .u8 xk, .int .u64 xn, .string xs] 29)).cell? ⟨wr.heap.size, 0, none⟩ = some (.int .u8 xk) := by rw [World.cell?_alloc_at _ _ _ _ rfl]; rfl
          have cb1 : (wr.alloc (.cells #[.int .u8 xk, .int .u64 xn, .string xs] 29)).cell? ⟨wr.heap.size, 1, none⟩ = some (.int .u64 xn) := by rw [World.cell?_alloc_at _ _ _ _ rfl]; rfl
          have cb2 : (wr.alloc (.cells #[.int .u8 xk, .int .u64 xn, .string xs] 29)).cell? ⟨wr.heap.size, 2, none⟩ = some (.string xs) := by rw [World.cell?_alloc_at _ _ _ _ rfl]; rfl
          have hba : Below wr.heap.size wr (wr.alloc (.cells #[.int .u8 xk, .int .u64 xn, .string xs] 29)) := (Below.refl _ wr).alloc (Nat.le_refl _) _
          have HR1 : Hid (Rdr (wr.alloc (.cells #[.int .u8 xk, .int .u64 xn, .string xs] 29)) g (thingB xk xn xs ++ (encL (l.drop (j + 1)) ++ r)) 0) := by
            have h := HR.out.below hba
            rw [hdr, List.append_assoc] at h
            exact h
          have hba2 := hba.mono (B' := w2.heap.size) (by omega)
          have H41 := Lib.hid (HB4.out.below hba2)
          have H61 := Lib.hid (HB6.out.below hba2)
          have HW1 := Lib.hid (HW.out.trans (hba.mono HW.out.size))
          have Hxo := Lib.hid hxo
          clear hba hba2 hdr hx hxo HR HB4 HB6
          go_wp2_with fail
          refine (back_any g xk xn Hxo.out.1 Hxo.out.2.1 xs (by omega) _ _ HR1.out).mono ?_
          rintro e1 w6 ⟨rfl, hR2, hg6⟩
          have HR2 := Lib.hid hR2
          have H42 := Lib.hid (H41.out.grownAt hg6 hgb)
          have H62 := Lib.hid (H61.out.grownAt hg6 hgb)
          have HW2 := Lib.hid (HW1.out.grown hg6 HW1.out.size (fun q hq => by cases hq; omega))
          clear hR2 hg6 HR1 H41 H61 HW1
          go_wp2
          exact ⟨⟨j + 1, by omega, by go_num, HR2.out, H42.out, H62.out, HW2.out⟩, by simp [intOf]; omega⟩
        · have hjk : j = k := by omega
          subst hjk
          have HRr : Hid (Rdr wr g r 0) := by
            have h := HR.out
            rw [List.drop_of_length_le (by have := Hn.out; omega)] at h
            exact h
          obtain ⟨X, hX⟩ : ∃ X, strB (encL l) = X := ⟨_, rfl⟩
          have cv4 : (convert 23 9 (.slice A4 E c4)).run Try.prog wr = .ok (.string X) wr := by rw [← hX]; exact conv_any HB4.out HE2.out.symm HA4.out
          have cv6 : (convert 23 9 (.slice A6 E c6)).run Try.prog wr = .ok (.string X) wr := by rw [← hX]; exact conv_any HB6.out HE2.out.symm HA6.out
          clear hX HR HB4 HB6
          have hll := rleft_any g r 0 wr HRr.out
          rw [← Hm.out] at hll
          have HLft := Lib.hid hll
          clear hll
          by_cases hm0 : 0 < m
          · have hm0i : (0 : Int) < m := by omega
            go_wp2_with fail
            refine HLft.out.mono ?_
            rintro e1 w6 ⟨rfl, rfl⟩
            go_wp2_with fail
            refine (rdone_rest g r (by have := Hm.out; omega) wr HRr.out).mono ?_
            rintro e1 w6 ⟨rfl, hR2, hg6⟩
            have HR2 := Lib.hid hR2
            have HW2 := Lib.hid (HW.out.grown hg6 HW.out.size (fun q hq => by cases hq; omega))
            clear hR2 hg6
            go_wp2_with fail
            refine (rerr_any g [] 25 w6 HR2.out).mono ?_
            rintro e1 w7 ⟨rfl, rfl⟩
            go_wp2
            go_ret
            exact ⟨rfl, HW2.out⟩
          · have hm0i : ¬ ((0 : Int) < m) := by omega
            obtain rfl : r = [] := List.eq_nil_of_length_eq_zero (by have := Hm.out; omega)
            go_wp2_with fail
            refine HLft.out.mono ?_
            rintro e1 w6 ⟨rfl, rfl⟩
            go_wp2_with fail
            refine (rdone_empty g 0 wr HRr.out).mono ?_
            rintro e1 w6 ⟨rfl, rfl⟩
            go_wp2_with fail
            refine (rerr_any g [] 0 wr HRr.out).mono ?_
            rintro e1 w7 ⟨rfl, rfl⟩
            go_wp2
            go_ret
            exact ⟨rfl, HW.out⟩
end Go.Proofs.Ytgadcongolldjaa.packThings
