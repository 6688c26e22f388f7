/-
  What comes out of a connection that is to break behind so many bytes, in plain words: a beginning of what was written.
-/
import Derived.Test.YteejehbgmkanpaaBase
namespace Go.Proofs.Yteejehbgmkanpaa
open Go Go.RowKit
theorem ba_ext {a b : ByteArray} (h : a.data.toList = b.data.toList) : a = b := by
  obtain ⟨a⟩ := a
  obtain ⟨b⟩ := b
  congr 1
  exact Array.ext' h
theorem ext_list (s : ByteArray) (m : Nat) : (s.extract 0 m).data.toList = s.data.toList.take m := by
  simp
theorem app_list (a b : ByteArray) : (a ++ b).data.toList = a.data.toList ++ b.data.toList := by
  simp [ByteArray.data_append]
theorem size_list (s : ByteArray) : s.data.toList.length = s.size := by simp
theorem ext_all {s : ByteArray} {m : Nat} (h : s.size ≤ m) : s.extract 0 m = s := by
  apply ba_ext
  rw [ext_list, List.take_of_length_le (by rw [size_list]; exact h)]
theorem ext_app_le {a b : ByteArray} {m : Nat} (h : m ≤ a.size) : (a ++ b).extract 0 m = a.extract 0 m := by
  apply ba_ext
  rw [ext_list, ext_list, app_list, List.take_append_of_le_length (by rw [size_list]; exact h)]
theorem ext_app_ge {a b : ByteArray} {m : Nat} (h : a.size ≤ m) : (a ++ b).extract 0 m = a ++ b.extract 0 (m - a.size) := by
  apply ba_ext
  rw [ext_list, app_list, app_list, ext_list, List.take_append, List.take_of_length_le (by rw [size_list]; exact h), size_list]
theorem app_assoc (a b c : ByteArray) : a ++ b ++ c = a ++ (b ++ c) := by
  apply ba_ext
  rw [app_list, app_list, app_list, app_list, List.append_assoc]
theorem app_nil (a : ByteArray) : a ++ ⟨#[]⟩ = a := by
  apply ba_ext
  rw [app_list]
  simp
theorem nil_app (a : ByteArray) : (⟨#[]⟩ : ByteArray) ++ a = a := by
  apply ba_ext
  rw [app_list]
  simp
/-- A connection that was opened, told to break behind n more, and to which these bytes were written. -/
def stO (n : Int) (all : ByteArray) : Pp :=
  if n < 0 then ⟨true, false, false, n, all⟩ else ⟨true, decide (n.toNat < all.size), true, ((n.toNat - all.size : Nat) : Int), all.extract 0 n.toNat⟩
theorem stO_start (n : Int) : ({ p1 with br := decide (0 ≤ n), lf := n } : Pp) = stO n ⟨#[]⟩ := by
  unfold stO p1
  by_cases h : n < 0
  · rw [if_pos h, decide_eq_false (by omega)]
  · rw [if_neg h, decide_eq_true (by omega)]
    have e : ((n.toNat - (⟨#[]⟩ : ByteArray).size : Nat) : Int) = n := by
      show ((n.toNat - 0 : Nat) : Int) = n
      omega
    have e2 : (⟨#[]⟩ : ByteArray).extract 0 n.toNat = ⟨#[]⟩ := ext_all (Nat.zero_le _)
    have e3 : decide (n.toNat < (⟨#[]⟩ : ByteArray).size) = false := decide_eq_false (by show ¬ n.toNat < 0; omega)
    rw [e, e2, e3]
theorem stO_write (n : Int) (all s : ByteArray) : pC (stO n all) 1 0 s = stO n (all ++ s) := by
  unfold stO
  by_cases h : n < 0
  · rw [if_pos h, if_pos h]
    simp [pC, Pp.wh, Pp.wrote]
  · rw [if_neg h, if_neg h]
    obtain ⟨m, hm⟩ : ∃ m, n.toNat = m := ⟨_, rfl⟩
    rw [hm, ByteArray.size_append]
    by_cases hb : m < all.size
    · rw [decide_eq_true hb, decide_eq_true (by omega : m < all.size + s.size), ext_app_le (by omega)]
      have e1 : m - all.size = 0 := by omega
      have e2 : m - (all.size + s.size) = 0 := by omega
      rw [e1, e2]
      simp [pC, Pp.wh]
    · rw [decide_eq_false hb, ext_all (by omega)]
      by_cases hs : s.size ≤ m - all.size
      · rw [decide_eq_false (by omega : ¬ m < all.size + s.size), ext_all (by rw [ByteArray.size_append]; omega)]
        have e1 : ((m - all.size : Nat) : Int) - (s.size : Int) = ((m - (all.size + s.size) : Nat) : Int) := by omega
        have e2 : (s.size : Int) ≤ ((m - all.size : Nat) : Int) := by omega
        simp only [pC, Pp.wh, Pp.wrote, Bool.not_false, Bool.and_self, if_true, if_pos e2, e1]
        simp
      · rw [decide_eq_true (by omega : m < all.size + s.size), ext_app_ge (by omega)]
        have e1 : m - (all.size + s.size) = 0 := by omega
        have e2 : ¬ (s.size : Int) ≤ ((m - all.size : Nat) : Int) := by omega
        have e3 : (((m - all.size : Nat) : Int)).toNat = m - all.size := by omega
        simp only [pC, Pp.wh, Pp.wrote, Bool.not_false, Bool.and_self, if_true, if_neg e2, e1, e3]
        simp
theorem stO_e (n : Int) (all s : ByteArray) : (pE (stO n all) 1 s == 0) = ((stO n all).wh && (decide (n < 0) || decide (((all ++ s).size : Int) ≤ n))) := by
  unfold stO
  by_cases h : n < 0
  · rw [if_pos h, decide_eq_true h]
    simp [pE, Pp.wh, Pp.wrE]
  · rw [if_neg h, decide_eq_false h, ByteArray.size_append]
    obtain ⟨m, hm⟩ : ∃ m : Nat, n = (m : Int) := ⟨n.toNat, by omega⟩
    subst hm
    rw [Int.toNat_natCast]
    by_cases hb : m < all.size
    · rw [decide_eq_true hb]
      simp [pE, Pp.wh]
    · rw [decide_eq_false hb]
      by_cases hs : s.size ≤ m - all.size
      · have e2 : (s.size : Int) ≤ ((m - all.size : Nat) : Int) := by omega
        have e3 : ((all.size + s.size : Nat) : Int) ≤ (m : Int) := by omega
        simp only [pE, Pp.wh, Pp.wrE, if_pos e2, decide_eq_true e3]
        simp
      · have e2 : ¬ (s.size : Int) ≤ ((m - all.size : Nat) : Int) := by omega
        have e3 : ¬ ((all.size + s.size : Nat) : Int) ≤ (m : Int) := by omega
        simp only [pE, Pp.wh, Pp.wrE, if_neg e2, decide_eq_false e3]
        simp
theorem stO_ok {n : Int} (h : N n) (all : ByteArray) : Pok (stO n all) := by
  unfold stO
  unfold N at h
  by_cases hn : n < 0
  · rw [if_pos hn]
    exact ⟨by show N n; unfold N; omega, fun e => by cases e⟩
  · rw [if_neg hn]
    exact ⟨by show N ((n.toNat - all.size : Nat) : Int); unfold N; omega, fun _ => by show (0 : Int) ≤ ((n.toNat - all.size : Nat) : Int); omega⟩
theorem stO_out_le (n : Int) (all : ByteArray) : (stO n all).out.size ≤ all.size := by
  unfold stO
  split
  · exact Nat.le_refl _
  · show (all.extract 0 n.toNat).size ≤ all.size
    simp
    omega
theorem stO_op (n : Int) (all : ByteArray) : (stO n all).op = true := by
  unfold stO
  split <;> rfl
/-- The first 40 bytes of a text; the first texts, one behind the other. -/
def cutB (s : ByteArray) : ByteArray := s.extract 0 (min s.size 40)
def joinN (l : List ByteArray) : ByteArray := (l.map cutB).foldl (· ++ ·) ⟨#[]⟩
theorem joinN_nil : joinN [] = ⟨#[]⟩ := rfl
theorem joinN_snoc (l : List ByteArray) (s : ByteArray) : joinN (l ++ [s]) = joinN l ++ cutB s := by
  unfold joinN
  rw [List.map_append, List.foldl_append]
  rfl
theorem cutB_size (s : ByteArray) : (cutB s).size ≤ 40 := by
  unfold cutB
  simp
  omega
theorem joinN_take {l : List ByteArray} {k : Nat} {s : ByteArray} (h : l[k]? = some s) : joinN (l.take (k + 1)) = joinN (l.take k) ++ cutB s := by
  rw [List.take_add_one, h]
  exact joinN_snoc _ _
theorem joinN_size (l : List ByteArray) : ∀ k, (joinN (l.take k)).size ≤ 40 * k
  | 0 => Nat.le_refl _
  | k + 1 => by
    have ih := joinN_size l k
    cases h : l[k]? with
    | none =>
      rw [List.take_add_one, h]
      show (joinN (l.take k ++ [])).size ≤ _
      rw [List.append_nil]
      omega
    | some s =>
      rw [joinN_take h, ByteArray.size_append]
      have := cutB_size s
      omega
end Go.Proofs.Yteejehbgmkanpaa
