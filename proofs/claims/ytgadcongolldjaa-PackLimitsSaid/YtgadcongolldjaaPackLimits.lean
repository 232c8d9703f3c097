/- The walk of watchfirelaw03.PackLimits. -/
import Derived.Test.YtgadcongolldjaaPkAwake
import Derived.Test.YtgadcongolldjaaPkBack
namespace Go.Proofs.Ytgadcongolldjaa.packLimits
open Go.RowKit Go.Proofs.Ytgadcongolldjaa

theorem strB_nil : strB [] = ⟨#[]⟩ := rfl
theorem own_nil {W : World} {base : Nat} {e : TypeId} {n c : Nat} {xs : List Value} (h : W.ownsRow base e 1 (.slice none n c) n xs) : n = 0 ∧ c = 0 := by
  rcases h.2 with ⟨e, _⟩ | ⟨_, _, _, e, _⟩
  · injection e with _ e1 e2; exact ⟨e1, e2⟩
  · injection e with e; cases e
theorem own_cap {W : World} {base : Nat} {e : TypeId} {n c : Nat} {A : Option Addr} {xs : List Value} (h : W.ownsRow base e 1 (.slice A n c) n xs) : n ≤ c := by
  rcases h.2 with ⟨e, _⟩ | ⟨_, _, _, e, _, _, h, _⟩
  · injection e with _ e1 e2; omega
  · injection e with _ e1 e2; omega

set_option maxRecDepth 100000 in
set_option maxHeartbeats 2000000 in
theorem walk (s : ByteArray) (most : Int) (hmx : most < 9223372036854775808) (n top cut : Nat) (hn : n < 18446744073709551616) (hcut : cut < 256) (w : World) :
    Calls Try.prog 6 #[.string s, .int .i64 most, .int .u64 n, .int .u64 top, .int .u8 cut] w fun e w' => e = .returned (.bool true) ∧ Below w.heap.size w w' := by
  have Hn := Lib.hid hn
  have Hcut := Lib.hid hcut
  have Hmx := Lib.hid hmx
  clear hn hcut hmx
  go_enter Try.func6, Try.ntmps6
  go_wp2_with fail
  refine (pawake_any _).mono ?_
  rintro e1 w1 ⟨rfl, hb1⟩
  have hsz1 := hb1.size
  by_cases hs1 : 200 < s.size
  · go_wp2
    go_ret
    exact ⟨rfl, hb1⟩
  have hs : s.size ≤ 200 := by omega
  have Hs := Lib.hid hs
  have hL := leb_le10 (n := s.size) (by omega)
  have hLp := leb_pos s.size
  go_wp2_with fail
  have H0 := Lib.hid (Wtr.new w1 26)
  refine (wtext_any w1.heap.size _ [] s (by omega) _ H0.out (by simp)).mono ?_
  rintro e1 w2 ⟨rfl, v2, h1, h2⟩
  rw [List.nil_append] at h1
  have hb2 := Lib.hid ((hb1.alloc hsz1 _).trans (h2.below (B := w.heap.size) (by simp; omega) hsz1 (fun k hk => by cases hk)))
  obtain ⟨L, hLe⟩ : ∃ L, leb s.size ++ bytesN s = L := ⟨_, rfl⟩
  have hLl : L.length = (leb s.size).length + s.size := by rw [← hLe, List.length_append, bytesN_length]
  rw [hLe] at h1
  have HL := Lib.hid hLe
  have H2 := Lib.hid h1
  have hLok : OkB L := by rw [← hLe]; exact OkB.append (leb_bytes (by omega)) (bytesN_ok s)
  have HLok := Lib.hid hLok
  have hL1 : 0 < L.length := by omega
  have hL2 : L.length ≤ 210 := by omega
  clear h1 h2 hb1 H0 hLe hLok hLl hL hLp hs
  go_wp2_with fail
  refine (wbytes_any w1.heap.size _ _ _ H2.out (by omega)).mono ?_
  rintro e1 w3 ⟨v3, rfl, ho, hb⟩
  have hb3 := Lib.hid (hb2.out.trans (hb.mono hb2.out.size))
  obtain ⟨A, c, rfl⟩ := ownB_slice ho
  have Ho := Lib.hid ho
  have hrd := Lib.hid (RdB.of_own ho)
  have hA : Hid (A = none → L.length = 0 ∧ c = 0) := fun e => by subst e; exact own_nil ho
  have hcap := own_cap ho
  obtain ⟨LN, hLN⟩ : ∃ LN, L.length = LN := ⟨_, rfl⟩
  rw [hLN] at hL1 hL2 hcap hA ⊢
  have HLN := Lib.hid hLN
  clear ho hb hb2 H2 hLN
  go_wp2_with fail
  refine (rread_any A LN c L w3.heap.size w3 HLN.out.symm (fun e => (hA.out e).1) (by omega) hrd.out (Nat.le_refl _) HLok.out).mono ?_
  rintro e1 w4 ⟨g, rfl, h1, hg, hb⟩
  have H4 := Lib.hid h1
  have hrd4 := Lib.hid (hrd.out.below hb)
  have hsz4 := hb.size
  have hsz3 := hb3.out.size
  have hb4 := Lib.hid (hb3.out.trans (hb.mono hsz3))
  clear h1 hb
  go_wp2_with fail
  refine (rtext_any g L most Hmx.out w4 H4.out).mono ?_
  rintro e1 w5 ⟨rfl, h1, h2⟩
  have hrd5 := Lib.hid (hrd4.out.grown h2 (by rintro k ⟨⟩ a ha e; obtain ⟨b, o, e2, hb, _⟩ := hrd4.out (by rw [HLN.out]; omega); rw [ha] at e2; cases e2; simp at e; omega))
  have hb5 := Lib.hid (hb4.out.grown h2 (by omega) (fun k hk => by cases hk; omega))
  have hsz5 := h2.size
  have hif : (if most < 0 then (0 : Int) else most) = (most.toNat : Nat) := by split <;> omega
  generalize hM : most.toNat = M at *
  clear hM
  have hc1 : wrap64 (cut : Int) = cut := by have := Hcut.out; unfold wrap64; omega
  obtain ⟨R, hR⟩ : ∃ R, cut % LN = R := ⟨_, rfl⟩
  have hRL : R < LN := by rw [← hR]; exact Nat.mod_lt _ hL1
  have hc2 : (cut : Int).tmod LN = R := by rw [Int.tmod_eq_emod_of_nonneg (by omega), ← hR]; omega
  obtain ⟨K, hK⟩ : ∃ K, LN - 1 - R = K := ⟨_, rfl⟩
  have hKL : K < LN := by omega
  have hc3 : wrap64 ((LN : Int) - 1 - R) = K := by unfold wrap64; omega
  have hKc : K ≤ c := by omega
  have HK := Lib.hid hK
  clear hR hK
  rcases Nat.lt_or_ge M s.size with hlong | hlong
  case' inl =>
    rw [← HL.out, getT_long (by have := Hs.out; omega) _ _ hlong] at h1 ⊢
    have H5 := Lib.hid h1
    simp only [strB_nil]
    clear h1 h2
    go_wp2_with fail
    refine (rerr_any g [] 4 w5 H5.out).mono ?_
    rintro e1 w6 ⟨rfl, rfl⟩
    go_wp2_with fail
  case' inr =>
    have hgp := getT_put (s := s) (by have := Hs.out; omega) M hlong []
    rw [List.append_nil, HL.out] at hgp
    rw [hgp] at h1 ⊢
    have H5 := Lib.hid h1
    simp only [strB_bytesN]
    clear h1 h2 hgp
    go_wp2_with fail
    refine (rdone_empty g 0 w5 H5.out).mono ?_
    rintro e1 w6 ⟨rfl, rfl⟩
    go_wp2_with fail
  all_goals (
    clear hif hc1 hc2 hc3 hRL
    rw [HK.out]
    refine (rread_any A K c (L.take K) w3.heap.size w5 (by rw [List.length_take, HLN.out]; omega) (fun e => by have := hA.out e; omega) (by omega) (hrd5.out.take K) (by omega) (HLok.out.take K)).mono ?_
    rintro e1 w6 ⟨g2, rfl, h1, hg2, hb⟩
    have H6 := Lib.hid h1
    have hb6 := Lib.hid (hb5.out.trans (hb.mono (by omega)))
    have hsz6 := hb.size
    clear h1 hb H5 hlong
    go_wp2_with fail
    have hgt := rtext_any g2 (L.take K) s.size (by have := Hs.out; omega) w6 H6.out
    rw [show ((s.size : Nat) : Int).toNat = s.size by simp, ← HL.out, getT_cut (by have := Hs.out; omega) _ (bytesN_length s) K (by rw [HL.out, HLN.out]; exact hKL)] at hgt
    simp only [strB_nil] at hgt
    refine hgt.mono ?_
    clear hgt
    rintro e1 w7 ⟨rfl, h1, h2⟩
    have H7 := Lib.hid h1
    have hb7 := Lib.hid (hb6.out.grown h2 (by omega) (fun k hk => by cases hk; omega))
    have hsz7 := h2.size
    clear h1 h2 H6
    go_wp2_with fail
    refine (rerr_any g2 [] 3 w7 H7.out).mono ?_
    rintro e1 w8 ⟨rfl, rfl⟩
    go_wp2_with fail
    have H0 := Lib.hid (Wtr.new w7 26)
    refine (wuint_any w7.heap.size _ [] n Hn.out _ H0.out (by simp)).mono ?_
    rintro e1 w8 ⟨rfl, v8, h1, h2⟩
    rw [List.nil_append] at h1
    have H8 := Lib.hid h1
    have hb8 := Lib.hid ((hb7.out.alloc (by omega) _).trans (h2.below (B := w.heap.size) (by simp; omega) (by omega) (fun k hk => by cases hk)))
    have hsz8 := h2.size
    clear h1 h2 H0 H7
    have hll := leb_le10 Hn.out
    go_wp2_with fail
    refine (wbytes_any w7.heap.size _ _ _ H8.out (by omega)).mono ?_
    rintro e1 w9 ⟨v9, rfl, ho, hb⟩
    have hb9 := Lib.hid (hb8.out.trans (hb.mono hb8.out.size))
    obtain ⟨A9, c9, rfl⟩ := ownB_slice ho
    have hrd9 := Lib.hid (RdB.of_own ho)
    have hA9 : Hid (A9 = none → (leb n).length = 0 ∧ c9 = 0) := fun e => by subst e; exact own_nil ho
    obtain ⟨LM, hLM⟩ : ∃ LM, (leb n).length = LM := ⟨_, rfl⟩
    rw [hLM] at hll hA9 ⊢
    have HLM := Lib.hid hLM
    clear ho hb H8 hLM
    go_wp2_with fail
    refine (rread_any A9 LM c9 (leb n) w9.heap.size w9 HLM.out.symm (fun e => (hA9.out e).1) (by omega) hrd9.out (Nat.le_refl _) (leb_bytes Hn.out)).mono ?_
    rintro e1 w10 ⟨g3, rfl, h1, hg3, hb⟩
    have H10 := Lib.hid h1
    have hsz9 := hb9.out.size
    have hb10 := Lib.hid (hb9.out.trans (hb.mono hsz9))
    clear h1 hb
    go_wp2_with fail
    have hgc := rcount_any g3 (leb n) top w10 H10.out
    rw [getC_put Hn.out] at hgc
    by_cases htop : top < n
    · rw [if_pos htop] at hgc
      refine hgc.mono ?_
      clear hgc
      rintro e1 w11 ⟨rfl, h1, h2⟩
      have H11 := Lib.hid h1
      have hb11 := Lib.hid (hb10.out.grown h2 hb10.out.size (fun k hk => by cases hk; omega))
      clear h1 h2 H10
      go_wp2_with fail
      refine (rerr_any g3 [] 6 w11 H11.out).mono ?_
      rintro e1 w12 ⟨rfl, rfl⟩
      go_wp2
      go_ret
      exact ⟨rfl, hb11.out⟩
    · rw [if_neg htop] at hgc
      refine hgc.mono ?_
      clear hgc
      rintro e1 w11 ⟨rfl, h1, h2⟩
      have H11 := Lib.hid h1
      have hb11 := Lib.hid (hb10.out.grown h2 hb10.out.size (fun k hk => by cases hk; omega))
      clear h1 h2 H10
      go_wp2_with fail
      refine (rdone_empty g3 0 w11 H11.out).mono ?_
      rintro e1 w12 ⟨rfl, rfl⟩
      go_wp2
      go_ret
      exact ⟨rfl, hb11.out⟩)
end Go.Proofs.Ytgadcongolldjaa.packLimits
