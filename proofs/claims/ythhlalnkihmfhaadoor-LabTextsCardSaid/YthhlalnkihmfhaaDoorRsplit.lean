/- Layer 1: the document's own Split. -/
import Derived.Test.YthhlalnkihmfhaaDoorSorted
import Derived.Test.YthhlalnkihmfhaaDoorParse
namespace Go.Proofs.YthhlalnkihmfhaaDoor
open Go.RowKit

theorem splitL_hit {c : UInt8} : ∀ (m : Nat) (l : List UInt8), (∀ j, j < m → l[j]? ≠ some c) → l[m]? = some c → splitL c l = l.take m :: splitL c (l.drop (m + 1))
  | 0, [], _, h => by simp at h
  | 0, b :: r, _, h => by
    have hb : b = c := by simpa using h
    simp [splitL, hb]
  | m + 1, [], _, h => by simp at h
  | m + 1, b :: r, hno, h => by
    have hb : b ≠ c := fun e => hno 0 (by omega) (by simp [e])
    have ih := splitL_hit m r (fun j hj => by have := hno (j + 1) (by omega); simpa using this) (by simpa using h)
    rw [splitL, if_neg hb, ih]
    simp
theorem splitL_miss {c : UInt8} : ∀ (l : List UInt8), (∀ j : Nat, l[j]? ≠ some c) → splitL c l = [l]
  | [], _ => rfl
  | b :: r, hno => by
    have hb : b ≠ c := fun e => hno 0 (by simp [e])
    rw [splitL, if_neg hb, splitL_miss r (fun j => by have := hno (j + 1); simpa using this)]
def strV (xs : List (List UInt8)) : List Value := xs.map fun x => .string (strOf x)
theorem strV_snoc (xs : List (List UInt8)) (x : List UInt8) : strV (xs ++ [x]) = strV xs ++ [.string (strOf x)] := by simp [strV]

theorem Tryd.infoS : (Tryd.prog.info? 9).map (fun i => (i.zero, i.size, i.bytes)) = some (some (.string ⟨#[]⟩), 1, 16) := by kernel_rfl
theorem src_one {w : World} {a : Value} {t : TypeId} : Src (w.alloc (.cells #[a] t)) (some ⟨w.heap.size, 0, none⟩) 1 1 [a] :=
  ⟨rfl, fun _ => ⟨_, rfl, fun j u hj => by
    rw [Addr.add_lit, World.cell?_alloc_at _ _ _ _ rfl]
    match j, hj with
    | 0, hj => simpa using hj⟩⟩
theorem byte_at (s : ByteArray) (k : Nat) (h : k < s.size) : s.data.toList[k]? = some (s[k]'h) := by
  rw [Array.getElem?_toList]
  exact Array.getElem?_eq_getElem h
theorem ext_mid (s : ByteArray) (m k : Nat) : s.extract m k = strOf ((s.data.toList.drop m).take (k - m)) := by
  rw [← strOf_data (s.extract m k), Lib.extract_data]
theorem ext_end (s : ByteArray) (m : Nat) : s.extract m s.size = strOf (s.data.toList.drop m) := by
  rw [ext_mid, List.take_of_length_le (by simp)]

set_option maxRecDepth 100000 in
set_option maxHeartbeats 1000000 in
theorem rsplit_any (s : ByteArray) (c : UInt8) (w : World) (hs : s.size ≤ 1048576) :
    Calls Tryd.prog 49 #[.string s, .int .u8 c.toNat] w fun e w' => ∃ v, e = .returned v ∧ w'.ownsRow w.heap.size 9 1 v (splitL c s.data.toList).length (strV (splitL c s.data.toList)) ∧ Below w.heap.size w w' := by
  obtain ⟨i0, hi, hz0, hz1, hz2⟩ := info_parts Tryd.infoS
  have hmix : Tryd.prog.follows .mixedOrders = true := by kernel_rfl
  have hsz : s.data.toList.length = s.size := by simp
  have Hsz := Lib.hid hsz
  clear hsz
  go_enter Tryd.func49, Tryd.ntmps49
  go_wp2
  go_loopw [5, 6, 7] (fun v f i wr => ∃ (k m : Nat) (xs : List (List UInt8)), i = .int .i64 k ∧ f = .int .i64 m ∧ m ≤ k ∧ k ≤ s.size ∧ xs.length ≤ m ∧ wr.ownsRow w.heap.size 9 1 v xs.length (strV xs) ∧ Below w.heap.size w wr ∧
    Hid (splitL c s.data.toList = xs ++ splitL c (s.data.toList.drop m)) ∧ Hid (∀ j, m ≤ j → j < k → s.data.toList[j]? ≠ some c)) (fun _ _ i _ => s.size - (intOf i).toNat)
  case atStart => exact ⟨0, 0, [], rfl, rfl, Nat.le_refl _, Nat.zero_le _, Nat.zero_le _, World.ownsRow_nil _ _ _ _, Below.refl _ _, rfl, fun j h1 h2 => by omega⟩
  case round =>
    obtain ⟨k, m, xs, rfl, rfl, hmk, hk, hxm, hown, hbw, Hsp, Hno⟩ := hrel
    obtain ⟨A2, c2, rfl⟩ := own_slice hown
    have hge := hbw.size
    by_cases hlt : k < s.size
    · have hat := byte_at s k hlt
      have Hat := Lib.hid hat
      clear hat
      by_cases hc : s[k]'hlt = c
      · have hbe : (((s[k]'hlt).toNat : Int) == (c.toNat : Int)) = true := by rw [hc]; simp
        have Hc := Lib.hid hc
        clear hc
        have hown1 := hown.alloc (.cells #[.string (s.extract m k)] 9)
        go_wp2_with (at_builtin; refine wpList_append_src (base := w.heap.size) rfl (.tmp 19) (.tmp 24) rfl Tryd.underlying40 hi hz0 hz1 hz2 rfl (by decide) rfl hown1 rfl src_one (by simp [Value.oneCell']) (by unfold maxLen; omega) (by omega) (by simp; omega) ?_; intro v3 w3 hr3 hg3 hb3)
        obtain ⟨A3, c3, rfl⟩ := own_slice hr3
        have hcut : splitL c (s.data.toList.drop m) = (s.data.toList.drop m).take (k - m) :: splitL c (s.data.toList.drop (k + 1)) := by
          rw [splitL_hit (k - m) _ (fun j hj => by rw [List.getElem?_drop]; exact Hno.out _ (by omega) (by omega)) (by rw [List.getElem?_drop, show m + (k - m) = k from by omega, Hat.out, Hc.out]), List.drop_drop, show m + (k - m + 1) = k + 1 from by omega]
        refine ⟨⟨k + 1, k + 1, xs ++ [(s.data.toList.drop m).take (k - m)], by go_num, by go_num, Nat.le_refl _, by omega, by simp; omega, ?_, (hbw.alloc hge _).grown hg3 (by simp; omega) (fun q hq => (hown1.lt q hq).1), ?_, fun j h1 h2 => by omega⟩, by simp [intOf]; omega⟩
        · rw [strV_snoc, ← ext_mid, List.length_append]
          exact hr3
        · show splitL c s.data.toList = _
          rw [Hsp.out, hcut, List.append_assoc]; rfl
      · have hbe : (((s[k]'hlt).toNat : Int) == (c.toNat : Int)) = false := by
          rw [beq_eq_false_iff_ne]; intro h; exact hc (UInt8.toNat_inj.1 (by omega))
        have Hc := Lib.hid hc
        clear hc
        go_wp2
        refine ⟨⟨k + 1, m, xs, by go_num, rfl, by omega, by omega, hxm, hown, hbw, Hsp, fun j h1 h2 => ?_⟩, by simp [intOf]; omega⟩
        by_cases hjk : j = k
        · subst hjk; rw [Hat.out]; exact fun h => Hc.out (Option.some.inj h)
        · exact Hno.out j h1 (by omega)
    · have hkn : k = s.size := by omega
      subst hkn
      have hown1 := hown.alloc (.cells #[.string (s.extract m s.size)] 9)
      go_wp2_with (at_builtin; refine wpList_append_src (base := w.heap.size) rfl _ _ rfl Tryd.underlying40 hi hz0 hz1 hz2 rfl (by decide) rfl hown1 rfl src_one (by simp [Value.oneCell']) (by unfold maxLen; omega) (by omega) (by simp; omega) ?_; intro v3 w3 hr3 hg3 hb3)
      go_ret
      have hcut : splitL c (s.data.toList.drop m) = [s.data.toList.drop m] := splitL_miss _ fun j h => by
        rw [List.getElem?_drop] at h
        have h1 := (List.getElem?_eq_some_iff.1 h).1
        have h2 := Hsz.out
        exact Hno.out (m + j) (by omega) (by omega) h
      refine ⟨_, rfl, ?_, (hbw.alloc hge _).grown hg3 (by simp; omega) (fun q hq => (hown1.lt q hq).1)⟩
      rw [Hsp.out, hcut, strV_snoc, ← ext_end, List.length_append]
      exact hr3
end Go.Proofs.YthhlalnkihmfhaaDoor
