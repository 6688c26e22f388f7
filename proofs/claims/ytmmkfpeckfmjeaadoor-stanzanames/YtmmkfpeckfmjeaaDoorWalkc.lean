/-
  The contract of unicode/utf8.FullRuneInString over this program, whole: for every string that is not empty.
-/
import Derived.Test.YtmmkfpeckfmjeaaDoorWalkb
namespace Go.Proofs.YtmmkfpeckfmjeaaDoor
open Go.RowKit
theorem getD_byte (s : ByteArray) (k : Nat) (h : k < s.size) : s.data.toList.getD k 0 = s[k]'h := by
  rw [List.getD_eq_getElem?_getD, List.getElem?_eq_getElem (by simpa using h), Option.getD_some]
  rfl
abbrev bt (s : ByteArray) (k : Nat) : Nat := (s.data.toList.getD k 0).toNat
theorem full_x (s : ByteArray) (w : World) (h0 : 0 < s.size) (x : Nat) (hx256 : (x : Int) < 256) (hx : w.cell? ⟨3, (s[0]'h0).toNat, none⟩ = some (.int .u8 (x : Nat))) (lo hi : Nat) (hlo : w.cell? ⟨4, x / 16 * 2, none⟩ = some (.int .u8 (lo : Nat))) (hhi : w.cell? ⟨4, x / 16 * 2 + 1, none⟩ = some (.int .u8 (hi : Nat))) (hs4 : x % 8 ≤ 4) :
    Calls Tryd.prog 83 #[.string s] w fun e w' => e = .returned (.bool (fullN (x % 8) lo hi s.size (bt s 1) (bt s 2))) ∧ Below w.heap.size w w' := by
  by_cases hn : x % 8 ≤ s.size
  · have e : fullN (x % 8) lo hi s.size (bt s 1) (bt s 2) = true := by simp [fullN, hn]
    rw [e]
    exact full_long s w h0 x hx256 hx (by omega)
  by_cases hn1 : s.size = 1
  · have e : fullN (x % 8) lo hi s.size (bt s 1) (bt s 2) = false := by simp [fullN, hn1]; omega
    rw [e]
    exact full_1 s w h0 x hx256 hx hn1 (by omega) lo hi hlo hhi
  have h1 : 1 < s.size := by omega
  have g1 : bt s 1 = (s[1]'h1).toNat := by unfold bt; rw [getD_byte s 1 h1]
  by_cases hn2 : s.size = 2
  · by_cases c1 : bt s 1 < lo
    · have e : fullN (x % 8) lo hi s.size (bt s 1) (bt s 2) = true := by unfold fullN; rw [hn2]; simp [c1]
      rw [e]
      exact full_2_lo s w h0 x hx256 hx lo hi hlo hhi hn2 (by omega) h1 (by omega)
    by_cases c2 : hi < bt s 1
    · have e : fullN (x % 8) lo hi s.size (bt s 1) (bt s 2) = true := by unfold fullN; rw [hn2]; simp [c2]
      rw [e]
      exact full_2_hi s w h0 x hx256 hx lo hi hlo hhi hn2 (by omega) h1 (by omega) (by omega)
    have e : fullN (x % 8) lo hi s.size (bt s 1) (bt s 2) = false := by unfold fullN; rw [hn2]; simp; omega
    rw [e]
    exact full_2_in s w h0 x hx256 hx lo hi hlo hhi hn2 (by omega) h1 (by omega) (by omega)
  have hn3 : s.size = 3 := by omega
  by_cases c1 : bt s 1 < lo
  · have e : fullN (x % 8) lo hi s.size (bt s 1) (bt s 2) = true := by unfold fullN; rw [hn3]; simp [c1]
    rw [e]
    exact full_3_lo s w h0 x hx256 hx lo hi hlo hhi hn3 (by omega) h1 (by omega)
  by_cases c2 : hi < bt s 1
  · have e : fullN (x % 8) lo hi s.size (bt s 1) (bt s 2) = true := by unfold fullN; rw [hn3]; simp [c2]
    rw [e]
    exact full_3_hi s w h0 x hx256 hx lo hi hlo hhi hn3 (by omega) h1 (by omega) (by omega)
  have h2 : 2 < s.size := by omega
  have g2 : bt s 2 = (s[2]'h2).toNat := by unfold bt; rw [getD_byte s 2 h2]
  by_cases c3 : bt s 2 < 128
  · have e : fullN (x % 8) lo hi s.size (bt s 1) (bt s 2) = true := by unfold fullN; rw [hn3]; simp [c3]
    rw [e]
    exact full_3_lo2 s w h0 x hx256 hx lo hi hlo hhi hn3 (by omega) h1 (by omega) (by omega) h2 (by omega)
  by_cases c4 : 191 < bt s 2
  · have e : fullN (x % 8) lo hi s.size (bt s 1) (bt s 2) = true := by unfold fullN; rw [hn3]; simp [c4]
    rw [e]
    exact full_3_hi2 s w h0 x hx256 hx lo hi hlo hhi hn3 (by omega) h1 (by omega) (by omega) h2 (by omega) (by omega)
  have e : fullN (x % 8) lo hi s.size (bt s 1) (bt s 2) = false := by unfold fullN; rw [hn3]; simp; omega
  rw [e]
  exact full_3_in2 s w h0 x hx256 hx lo hi hlo hhi hn3 (by omega) h1 (by omega) (by omega) h2 (by omega) (by omega)

theorem firstT_val (b : Nat) : (b < 128 ∧ Lib.firstT b = 240) ∨ ((128 ≤ b ∧ b < 194 ∨ 245 ≤ b) ∧ Lib.firstT b = 241) ∨ (194 ≤ b ∧ b < 224 ∧ Lib.firstT b = 2) ∨ (b = 224 ∧ Lib.firstT b = 19) ∨ ((225 ≤ b ∧ b < 237 ∨ 238 ≤ b ∧ b < 240) ∧ Lib.firstT b = 3) ∨ (b = 237 ∧ Lib.firstT b = 35) ∨
    (b = 240 ∧ Lib.firstT b = 52) ∨ (241 ≤ b ∧ b < 244 ∧ Lib.firstT b = 4) ∨ (b = 244 ∧ Lib.firstT b = 68) := by
  unfold Lib.firstT
  repeat' split
  all_goals omega
set_option maxHeartbeats 2000000 in
/-- What the tables make of the bytes is what the sign says. -/
theorem full_sg {l : List UInt8} {r : Nat × Int} (h : SgWay l r) (hl : l ≠ []) : fullN (Lib.firstT (l.getD 0 0).toNat % 8) (Lib.accLo (Lib.firstT (l.getD 0 0).toNat / 16)) (Lib.accHi (Lib.firstT (l.getD 0 0).toNat / 16)) l.length (l.getD 1 0).toNat (l.getD 2 0).toNat = decide (r.2 ≠ -1) := by
  have hlt : ∀ x : UInt8, x.toNat < 256 := fun x => x.toNat_lt
  revert hl
  refine h (fun l r => l ≠ [] → fullN (Lib.firstT (l.getD 0 0).toNat % 8) (Lib.accLo (Lib.firstT (l.getD 0 0).toNat / 16)) (Lib.accHi (Lib.firstT (l.getD 0 0).toNat / 16)) l.length (l.getD 1 0).toNat (l.getD 2 0).toNat = decide (r.2 ≠ -1)) ?nil ?one ?bad0 ?part2 ?two ?bad2 ?part3a ?part3b ?bad3b ?three ?bad3c ?part4a ?part4b ?bad4b ?part4c ?bad4c ?four ?bad4d
  case nil => intro hl; exact absurd rfl hl
  all_goals
    intros
    simp only [List.getD_cons_zero, List.getD_cons_succ, List.length_cons, List.length_nil, List.getD_nil, ok3_iff, ok4_iff, ok3_no, ok4_no] at *
    rcases firstT_val _ with k | k | k | k | k | k | k | k | k
    all_goals first
      | (exfalso; omega)
      | (rw [k.2]; simp [fullN, Lib.accLo, Lib.accHi]; try omega)
      | (rw [k.2.2]; simp [fullN, Lib.accLo, Lib.accHi]; try omega)
theorem full_any (s : ByteArray) (w : World) (hT : Lib.Utf8Tabs 3 4 w) (hl : s.data.toList ≠ []) :
    Calls Tryd.prog 83 #[.string s] w fun e w' => e = .returned (.bool (decide ((sg s.data.toList).2 ≠ -1))) ∧ Below w.heap.size w w' := by
  have hsz : s.size = s.data.toList.length := Array.length_toList.symm
  have h0 : 0 < s.size := by
    rw [hsz]
    exact List.length_pos_iff.2 hl
  have e := full_sg (sgWay s.data.toList) hl
  have g0 : (s.data.toList.getD 0 0) = s[0]'h0 := getD_byte s 0 h0
  have hx := hT.1 (s[0]'h0).toNat (s[0]'h0).toNat_lt
  rw [← e, ← hsz, g0]
  have hv := firstT_val (s[0]'h0).toNat
  obtain ⟨x, hxe⟩ : ∃ x, x = Lib.firstT (s[0]'h0).toNat := ⟨_, rfl⟩
  rw [← hxe] at hv hx ⊢
  have ha := hT.2 (x / 16) (by omega)
  exact full_x s w h0 x (by omega) hx _ _ (by rw [Nat.mul_comm]; exact ha.1) (by rw [Nat.mul_comm]; exact ha.2) (by omega)
end Go.Proofs.YtmmkfpeckfmjeaaDoor
