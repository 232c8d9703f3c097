/- Layer 6: DiskKeeps' walk. -/
import Derived.Test.YtocebbekaadofaaDkArgs
import Derived.Test.YtocebbekaadofaaDkAwake
namespace Go.Proofs.Ytocebbekaadofaa
open Go.RowKit Go.Maps

theorem strB_append (a b : List Nat) : strB a ++ strB b = strB (a ++ b) := by
  unfold strB
  apply ByteArray.ext
  simp
theorem strB_size (a : List Nat) : (strB a).size = a.length := by
  show (strB a).data.size = _
  unfold strB; simp
theorem slice_k (A : Option Addr) (n c k : Nat) (hk : (k : Int) ≤ c) (w : World) : (Instr.sliceAt 30 (.slice A n c) none (some (.int .i64 k)) none).run Try.prog w = .ok (.slice A k c) w := by
  have hu : Try.prog.underlying 30 = some (.slice (Try.prog.elem 30)) := by kernel_rfl
  have hz : (sizeOf (Try.prog.elem 30)).run Try.prog w = .ok 1 w := by kernel_rfl
  rw [run_sliceAt_slice _ _ _ _ _ _ hu, run_slice_h _ _ _ _ _ hu .i64 (k : Int) (by omega) hk, hz]
  cases A <;> simp [Result.andThen, sliced, Addr.add]
abbrev nmF : ByteArray := ⟨#[102]⟩
theorem nmF_value : valueB nmF = true := by decide +kernel
theorem nmF_size : nmF.size ≤ maxLen := by decide +kernel
/-- the one file, once there is a part -/
def oneF (k : Nat) (all : List Nat) (syn : Nat) : List (ByteArray × Fl) := if k = 0 then [] else [(nmF, ⟨all, syn⟩)]
theorem oneF_had {k : Nat} {all : List Nat} {syn : Nat} (h0 : k = 0 → all = [] ∧ syn = 0) : had (oneF k all syn) nmF = ⟨all, syn⟩ := by
  unfold oneF
  by_cases hk : k = 0
  · obtain ⟨rfl, rfl⟩ := h0 hk
    rw [if_pos hk]; rfl
  · rw [if_neg hk]; unfold had; rw [find_one]; rfl
theorem oneF_put {k : Nat} {all : List Nat} {syn : Nat} (x : Fl) : putP (oneF k all syn) nmF x = [(nmF, x)] := by
  unfold oneF
  by_cases hk : k = 0
  · rw [if_pos hk]; rfl
  · rw [if_neg hk]; exact put_one _ _ _
theorem oneF_few {k : Nat} {all : List Nat} {syn : Nat} : findP (oneF k all syn) nmF = none → (oneF k all syn).length < 64 := fun _ => by
  unfold oneF
  split <;> simp
theorem RdT.below {w w' : World} {B : Nat} {A : Option Addr} {ts : List (Nat × Nat)} (h : RdT w B A ts) (hb : Below B w w') : RdT w' B A ts := fun h0 => by
  obtain ⟨b, o, e, hb', hc⟩ := h h0
  exact ⟨b, o, e, hb', fun i t ht => ⟨(hb.cell (p := ⟨b, o + i * 2, none⟩) hb').trans (hc i t ht).1, (hb.cell (p := ⟨b, o + i * 2 + 1, none⟩) hb').trans (hc i t ht).2⟩⟩
theorem RdT.more {w : World} {B B' : Nat} {A : Option Addr} {ts : List (Nat × Nat)} (h : RdT w B A ts) (hB : B ≤ B') : RdT w B' A ts := fun h0 => by
  obtain ⟨b, o, e, hb', hc⟩ := h h0
  exact ⟨b, o, e, by omega, hc⟩
theorem RdT.far {w : World} {B : Nat} {A : Option Addr} {ts : List (Nat × Nat)} {S : Nat → Prop} (h : RdT w B A ts) (hS : ∀ i, S i → B ≤ i) : ∀ a, A = some a → 0 < ts.length → ¬ S a.block := fun a ha h0 hs => by
  obtain ⟨b, o, e, hb', _⟩ := h h0
  rw [ha] at e
  injection e with e
  subst e
  have : B ≤ b := hS _ hs
  omega
theorem torn_facts (f : Fl) (keep bit : Nat) (hs : f.syn ≤ f.by_.length) : (tornF f keep bit).by_.length = (tornF f keep bit).syn ∧ f.syn ≤ (tornF f keep bit).syn ∧ (tornF f keep bit).syn ≤ f.by_.length ∧
    (tornF f keep bit).by_.take f.syn = f.by_.take f.syn ∧ (tornF f keep bit).by_.take ((tornF f keep bit).syn - 1) = f.by_.take ((tornF f keep bit).syn - 1) := by
  have hsyn : (tornF f keep bit).syn = min f.by_.length (f.syn + keep) := rfl
  have hby : (tornF f keep bit).by_ = if f.syn < min f.by_.length (f.syn + keep) ∧ bit < 8 then (f.by_.set (min f.by_.length (f.syn + keep) - 1) (f.by_.getD (min f.by_.length (f.syn + keep) - 1) 0 ^^^ 2 ^ bit)).take (min f.by_.length (f.syn + keep)) else f.by_.take (min f.by_.length (f.syn + keep)) := rfl
  rw [hsyn, hby]
  generalize hy : min f.by_.length (f.syn + keep) = y
  have h1 : f.syn ≤ y := by omega
  have h2 : y ≤ f.by_.length := by omega
  by_cases hc : f.syn < y ∧ bit < 8
  · rw [if_pos hc]
    refine ⟨by rw [List.length_take, List.length_set]; omega, h1, h2, ?_, ?_⟩
    · rw [List.take_take, List.take_set, List.set_eq_of_length_le (by rw [List.length_take]; omega)]
      congr 1; omega
    · rw [List.take_take, List.take_set, List.set_eq_of_length_le (by rw [List.length_take]; omega)]
      congr 1; omega
  · rw [if_neg hc]
    refine ⟨by rw [List.length_take]; omega, h1, h2, ?_, ?_⟩
    · rw [List.take_take]; congr 1; omega
    · rw [List.take_take]; congr 1; omega
namespace diskKeeps

set_option maxRecDepth 100000 in
set_option maxHeartbeats 2000000 in
theorem walk (A : Option Addr) (n c : Nat) (z : Nat) (TA : Option Addr) (tn tc : Nat) (ts : List (Nat × Nat)) (w : World) (hr : RdW w w.heap.size A n) (hnm : n ≤ maxLen) (hz : z < 256) (htn : tn = ts.length) (ht : RdT w w.heap.size TA ts) (hto : OkT ts) :
    Calls Try.prog 4 #[.slice A n c, .int .u8 z, .slice TA tn tc] w fun e w' => e = .returned (.bool true) ∧ Below w.heap.size w w' := by
  have HR := Lib.hid hr
  have HT := Lib.hid ht
  have HTo := Lib.hid hto
  have HTn := Lib.hid htn
  have HNm := Lib.hid hnm
  clear hr ht hto htn hnm
  go_enter Try.func4, Try.ntmps4
  go_wp2_with fail
  refine (awake_any w).mono ?_
  rintro e w1 ⟨rfl, hb⟩
  have HB := Lib.hid hb
  clear hb
  by_cases h1 : 20 < n
  · have d1 : decide ((20 : Int) < (n : Int)) = true := decide_eq_true (by omega)
    go_wp2
    go_ret
    exact ⟨rfl, HB.out⟩
  · have d1 : decide ((20 : Int) < (n : Int)) = false := decide_eq_false (by omega)
    by_cases h2 : 10 < tn
    · have d2 : decide ((10 : Int) < (tn : Int)) = true := decide_eq_true (by omega)
      go_wp2
      go_ret
      exact ⟨rfl, HB.out⟩
    · have d2 : decide ((10 : Int) < (tn : Int)) = false := decide_eq_false (by omega)
      go_wp2_with fail
      refine (new_any _).mono ?_
      rintro e w2 ⟨rfl, h5⟩
      have D2 := Lib.hid (h5 ▸ Disk.new w1 : Disk w2 (fun k => k = w1.heap.size) w1.heap.size [] 0 0)
      have HB2 := Lib.hid (h5 ▸ HB.out.alloc HB.out.size _ : Below w.heap.size w w2)
      have hg := HB.out.size
      clear h5
      go_wp2
      go_loopw [28, 8, 9] (fun iv av kv wr => ∃ (k : Nat) (all : List Nat) (syn sy : Nat) (S : Nat → Prop), k ≤ n ∧ iv = .int .i64 k ∧ av = .string (strB all) ∧ kv = .string (strB (all.take syn)) ∧ all.length ≤ 100 * k ∧ syn ≤ all.length ∧ sy ≤ k ∧ Hid (OkB all) ∧ Hid (k = 0 → all = [] ∧ syn = 0) ∧
          Hid (Disk wr S w1.heap.size (oneF k all syn) k sy) ∧ Hid (∀ i, S i → w.heap.size ≤ i) ∧ Hid (Below w.heap.size w wr)) (fun iv _ _ _ => n - (intOf iv).toNat)
      case atStart => exact ⟨0, [], 0, 0, _, Nat.zero_le _, rfl, rfl, rfl, by simp, by simp, Nat.le_refl _, OkB.nil, fun _ => ⟨rfl, rfl⟩, D2.out, fun i hi => by subst hi; exact hg, HB2.out⟩
      case round =>
        obtain ⟨k, all, syn, sy, S, hk, rfl, rfl, rfl, hal, hsl, hsy, Hok, H0, Hd, HSb, Hbl⟩ := hrel
        by_cases hlt : k < n
        · obtain ⟨b, o, rfl, hbl, hrow⟩ := HR.out (by omega)
          obtain ⟨Ar, nr, cr, lr, hc, hnr, hnrm, hAr, hrb, hokr⟩ := hrow k hlt
          have hc' := (Hbl.out.cell (p := ⟨b, o + k, none⟩) hbl).trans hc
          have HAr := Lib.hid hAr
          have HR0 := Lib.hid hrb
          have HRb := Lib.hid ((hrb.below Hbl.out).more Hbl.out.size)
          have HOr := Lib.hid hokr
          have HNr := Lib.hid hnr
          clear hc hnr hAr hrb hokr hrow
          by_cases h3 : 100 < nr
          · have d3 : decide ((100 : Int) < (nr : Int)) = true := decide_eq_true (by omega)
            go_wp2
            go_ret
            exact ⟨rfl, Hbl.out⟩
          · have d3 : decide ((100 : Int) < (nr : Int)) = false := decide_eq_false (by omega)
            go_wp2_with fail
            refine (append_ok (l := lr) _ Hd.out nmF_value nmF_size oneF_few HNr.out HOr.out (by rw [oneF_had H0.out]; show all.length + nr ≤ _; omega) HRb.out (by omega)).mono ?_
            rintro e w3 ⟨rfl, S3, d3', st3⟩
            rw [oneF_put, oneF_had H0.out] at d3'
            obtain ⟨hS3, hbb⟩ := st3.base HSb.out Hbl.out.size
            have HB3 := Lib.hid (Hbl.out.trans hbb)
            have D3 := Lib.hid d3'
            have HS3 := Lib.hid hS3
            have hcs := conv_any (w := w3) (n := nr) (c := cr) (HR0.out.below HB3.out) HNr.out HAr.out
            have HLr : Hid (lr.length = nr) := HNr.out.symm
            clear d3' st3 hS3 hbb
            have hs1 : (strB all).size ≤ 2000 := by rw [strB_size]; omega
            have hs2 : (strB lr).size ≤ 100 := by rw [strB_size]; have := HNr.out; omega
            have hal2 : (all ++ lr).length ≤ 100 * (k + 1) := by rw [List.length_append]; have := HNr.out; omega
            have HAl := Lib.hid hal2
            clear hal2
            by_cases hkz : k = z % 20
            · have hd : ((k : Int) == (z : Int) % 20) = true := by rw [beq_iff_eq]; omega
              clear hkz
              go_wp2_with fail
              refine (sync_some _ D3.out nmF_size (find_one _ _) (by omega)).mono ?_
              rintro e w4 ⟨rfl, S4, d4, st4⟩
              rw [put_one] at d4
              obtain ⟨hS4, hbb⟩ := st4.base HS3.out HB3.out.size
              have HB4 := Lib.hid (HB3.out.trans hbb)
              have D4 := Lib.hid d4
              have HS4 := Lib.hid hS4
              clear d4 st4 hS4 hbb
              go_wp2
              refine ⟨⟨k + 1, all ++ lr, (all ++ lr).length, sy + 1, S4, by omega, by go_num, by rw [strB_append], by rw [strB_append, List.take_length], HAl.out, Nat.le_refl _, by omega, Hok.out.append HOr.out, fun h => (by omega), ?_, HS4.out, HB4.out⟩, by simp [intOf]; omega⟩
              show Disk _ _ _ _ _ _
              unfold oneF
              rw [if_neg (by omega)]
              exact D4.out
            · have hd : ((k : Int) == (z : Int) % 20) = false := by rw [beq_eq_false_iff_ne]; omega
              clear hkz
              go_wp2
              refine ⟨⟨k + 1, all ++ lr, syn, sy, S3, by omega, by go_num, by rw [strB_append], by rw [List.take_append_of_le_length hsl], HAl.out, by rw [List.length_append]; omega, by omega, Hok.out.append HOr.out, fun h => (by omega), ?_, HS3.out, HB3.out⟩, by simp [intOf]; omega⟩
              show Disk _ _ _ _ _ _
              unfold oneF
              rw [if_neg (by omega)]
              exact D3.out
        · obtain rfl : k = n := by omega
          have hd0 : decide (k < k) = false := decide_eq_false (Nat.lt_irrefl _)
          go_wp2_with fail
          refine (crash_any _ Hd.out HTn.out (by omega) ((HT.out.below Hbl.out).more Hbl.out.size) (HT.out.far HSb.out) HTo.out).mono ?_
          rintro e w3 ⟨rfl, S3, d3', st3⟩
          obtain ⟨hS3, hbb⟩ := st3.base HSb.out Hbl.out.size
          have HB3 := Lib.hid (Hbl.out.trans hbb)
          have D3 := Lib.hid d3'
          clear d3' st3 hS3 hbb
          by_cases hk0 : k = 0
          · subst hk0
            go_wp2_with fail
            refine (read_none _ D3.out nmF_size rfl).mono ?_
            rintro e w4 ⟨rfl, hb⟩
            have HB4 := Lib.hid (HB3.out.trans (hb.mono HB3.out.size))
            clear hb
            go_wp2
            go_ret
            exact ⟨rfl, HB4.out⟩
          · obtain ⟨f', hf'⟩ : ∃ f', f' = tornF ⟨all, syn⟩ (tearAt ts 0).1 (tearAt ts 0).2 := ⟨_, rfl⟩
            have hone : crashL (oneF k all syn) ts = [(nmF, f')] := by unfold oneF; rw [if_neg hk0, hf']; rfl
            have D4 := D3.out
            rw [hone] at D4
            obtain ⟨t1, t2, t3, t4, t5⟩ := torn_facts ⟨all, syn⟩ (tearAt ts 0).1 (tearAt ts 0).2 hsl
            rw [← hf'] at t1 t2 t3 t4 t5
            obtain ⟨by', y⟩ := f'
            change by'.length = y at t1
            change syn ≤ y at t2
            change y ≤ all.length at t3
            change by'.take syn = all.take syn at t4
            change by'.take (y - 1) = all.take (y - 1) at t5
            have HD4 := Lib.hid D4
            have T1 := Lib.hid t1
            have T4 := Lib.hid t4
            have T5 := Lib.hid t5
            have hk0' : ((k : Int) == 0) = false := by rw [beq_eq_false_iff_ne]; omega
            clear D4 t1 t4 t5 hf' hone
            go_wp2_with fail
            refine (read_some _ HD4.out nmF_size (find_one _ _)).mono ?_
            rintro e w4 ⟨v, rfl, ho, hb⟩
            have HB4 := Lib.hid (HB3.out.trans (hb.mono HB3.out.size))
            change World.ownsRow _ _ _ _ _ by'.length (cellsB by') at ho
            rw [T1.out] at ho
            obtain ⟨A6, c6, rfl⟩ := ownB_slice ho
            obtain ⟨r1, r2, r3⟩ := rdB_of_own ho
            have hyc : (y : Int) ≤ c6 := by
              rcases ho.2 with ⟨e1, e2⟩ | ⟨g', cap, cur, e1, _, _, h3, _⟩
              · omega
              · injection e1 with _ _ e3; omega
            have HD5 := Lib.hid (HD4.out.below hb)
            have hsz1 : (strB (List.take syn all)).size = syn := by rw [strB_size, List.length_take]; omega
            have hsz2 : (strB all).size = all.length := strB_size _
            have hsl1 := slice_k A6 y c6 syn (by omega)
            have hcv1 : ∀ w5, Below w4.heap.size w4 w5 → (convert 30 9 (.slice A6 syn c6)).run Try.prog w5 = .ok (.string (strB (List.take syn all))) w5 := fun w5 hb5 => by
              have := conv_any (w := w5) (n := syn) (c := c6) ((r1.below hb5).take syn) (by rw [List.length_take]; omega) (fun h => by have := r3 h; omega)
              rw [T4.out] at this
              exact this
            have R1 := Lib.hid r1
            have R3 := Lib.hid r3
            have hcv1' := hcv1 w4 (Below.refl _ _)
            clear hb ho r1 r2 r3 hcv1
            have q1 : decide (y < syn) = false := decide_eq_false (by omega)
            have q2 : decide (all.length < y) = false := decide_eq_false (by omega)
            go_wp2_with fail
            refine (loose_some _ HD5.out nmF_size (find_one _ _)).mono ?_
            rintro e w5 ⟨rfl, hb5⟩
            have HB5 := Lib.hid (HB4.out.trans (hb5.mono HB4.out.size))
            have Hb5 := Lib.hid hb5
            change Hid _ at Hb5
            have hl0 : (((⟨by', y⟩ : Fl).by_.length - (⟨by', y⟩ : Fl).syn : Nat) : Int) = 0 := by show ((by'.length - y : Nat) : Int) = 0; rw [T1.out]; omega
            rw [hl0]
            clear hb5 hl0
            by_cases hys : y = syn
            · subst hys
              have q3 : ((y : Int) == (y : Int)) = true := by rw [beq_iff_eq]
              go_wp2_with fail
              go_quiet (fail)
              go_wp2
              go_ret
              exact ⟨rfl, cbelow_drewN HB5.out _⟩
            · have q3 : ((y : Int) == (syn : Int)) = false := by rw [beq_eq_false_iff_ne]; omega
              obtain ⟨q, rfl⟩ : ∃ q, y = q + 1 := ⟨y - 1, by omega⟩
              have hq1 : (((q + 1 : Nat) : Int) - 1) = q := by omega
              have hsl2 := slice_k A6 (q + 1) c6 q (by omega)
              have T5' : by'.take q = all.take q := T5.out
              have hcv2 : ∀ n5, (convert 30 9 (.slice A6 q c6)).run Try.prog (w5.drewN n5) = .ok (.string (strB (List.take q all))) (w5.drewN n5) := fun n5 => by
                have := conv_any (w := w5.drewN n5) (n := q) (c := c6) (((R1.out.below Hb5.out).below (cbelow_drewN (Below.refl _ _) _)).take q) (by rw [List.length_take]; have := T1.out; omega) (fun h => by have := R3.out h; omega)
                rw [T5'] at this
                exact this
              have hxt : (strB all).extract 0 q = strB (List.take q all) := by
                apply ByteArray.ext
                rw [ByteArray.data_extract]
                unfold strB
                simp [List.extract_eq_take_drop]
              clear T5'
              have hcv3 : (convert 30 9 (.slice A6 q c6)).run Try.prog w5.drew = .ok (.string (strB (List.take q all))) w5.drew := hcv2 1
              have q4 : ((q : Int) + 1 == (syn : Int)) = false := by rw [beq_eq_false_iff_ne]; omega
              clear q3
              go_wp2_with fail
              go_quiet (fail)
              go_wp2
              go_ret
              exact ⟨rfl, cbelow_drewN HB5.out _⟩
end diskKeeps
end Go.Proofs.Ytocebbekaadofaa
