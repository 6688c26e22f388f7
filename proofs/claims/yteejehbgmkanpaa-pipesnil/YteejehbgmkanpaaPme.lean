/-
  The contracts of Out and All over this program; a step of a script on the program's connections.
-/
import Derived.Test.YteejehbgmkanpaaPmd
import Derived.WalkSpells
namespace Go.Proofs.Yteejehbgmkanpaa
open Go Go.RowKit
theorem strCells_get (s : ByteArray) (j : Nat) (hj : j < s.data.toList.length) : (Lib.strCells s)[j]? = some (.int .u8 ((s.data.toList[j]).toNat : Int)) := by
  simp [Lib.strCells, List.getElem?_eq_getElem hj]
theorem conv_owned {v : Value} {s : ByteArray} {w : World} (h : w.ownsRow 0 5 1 v s.size (Lib.strCells s)) : (convert 51 9 v).run Try.prog w = .ok (.string s) w := by
  rcases h.2 with ⟨rfl, hn⟩ | ⟨g, cap, cur, rfl, _, hg, _⟩
  · rw [run_convert_bytes_string w 51 9 5 none 0 0 Try.underlying51 Try.underlying5 Try.underlying9]
    have e : s = ⟨#[]⟩ := by
      obtain ⟨d⟩ := s
      have : d.size = 0 := hn
      rw [Array.size_eq_zero_iff.1 this]
    rw [e]
    simp [Conv.bytesToString]
    rfl
  · have hl : s.data.toList.length = s.size := by simp
    have H := run_convert_bytes_back w 51 9 5 ⟨g, 0, none⟩ cap s.data.toList Try.underlying51 Try.underlying5 Try.underlying9 fun j hj => by
      have hadd : (⟨g, 0, none⟩ : Addr).add j = ⟨g, j, none⟩ := by unfold Addr.add; split <;> simp_all
      rw [hadd, World.ownsRow.cellAt h j (by omega), strCells_get s j hj]
    rw [hl] at H
    rw [H]
theorem out_nil (id : Int) (w : World) : Calls Try.prog 13 #[.pointer none, .int .i64 id] w fun e w' => e = .returned (.string ⟨#[]⟩) ∧ w' = w := by
  go_enter Try.func13, Try.ntmps13
  go_wp2_with (go_at_call 27; refine (conn_nil id w).mono ?_; rintro e w1 ⟨rfl, rfl⟩)
  go_ret
  exact ⟨rfl, rfl⟩
theorem out_bad (r : Nat) (id : Int) (w : World) (h : ¬ (0 ≤ id ∧ id < 16)) : Calls Try.prog 13 #[.pointer (some ⟨r, 0, none⟩), .int .i64 id] w fun e w' => e = .returned (.string ⟨#[]⟩) ∧ w' = w := by
  have H := fun W => conn_bad r id W h
  clear h
  go_enter Try.func13, Try.ntmps13
  go_wp2_with (go_at_call 27; refine (H w).mono ?_; rintro e w1 ⟨rfl, rfl⟩)
  go_ret
  exact ⟨rfl, rfl⟩
theorem out_any (r i : Nat) (S : List Nat) (c : Nat → Pp) (w : World) (h : PsM r S c w) (hi : i < 16) :
    Calls Try.prog 13 #[.pointer (some ⟨r, 0, none⟩), .int .i64 (i : Int)] w fun e w' => e = .returned (.string (c i).out) ∧ w' = w := by
  have H := fun W => conn_any r i W hi
  obtain ⟨k0, k1, k2, k3, v, k4, ho⟩ := h.cells hi
  have hc := conv_owned ho
  obtain ⟨ao, cap, rfl⟩ := owns_slice ho
  obtain ⟨o, ho'⟩ : ∃ o, i * 5 = o := ⟨_, rfl⟩
  obtain ⟨s, hs⟩ : ∃ s, (c i).out = s := ⟨_, rfl⟩
  simp only [ho', hs] at H k4 hc ⊢
  clear h hi ho' hs ho k0 k1 k2 k3
  go_enter Try.func13, Try.ntmps13
  go_wp2_with (go_at_call 27; refine (H w).mono ?_; rintro e w1 ⟨rfl, rfl⟩)
  go_ret
  exact ⟨rfl, rfl⟩
/-- The cells of numbers. -/
def ints (l : List Int) : List Value := l.map (Value.int .i64)
theorem ints_length (l : List Int) : (ints l).length = l.length := List.length_map _
theorem ints_get (l : List Int) (i : Nat) : (ints l)[i]? = l[i]?.map (Value.int .i64) := List.getElem?_map
theorem ints_one (l : List Int) : ∀ u ∈ ints l, u.oneCell' = true := by
  intro u hu
  obtain ⟨s, _, rfl⟩ := List.mem_map.1 hu
  rfl
theorem ints_app (a b : List Int) : ints (a ++ b) = ints a ++ ints b := List.map_append
/-- The numbers below k of those that are open. -/
def allN (f : Nat → Bool) : Nat → List Int
  | 0 => []
  | k + 1 => if f k then allN f k ++ [(k : Int)] else allN f k
theorem allN_len (f : Nat → Bool) : ∀ k, (allN f k).length ≤ k
  | 0 => Nat.le_refl _
  | k + 1 => by
    have := allN_len f k
    unfold allN
    split
    · simp; omega
    · omega
theorem info3 : (Try.prog.info? 3).map (fun i => (i.zero, i.size, i.bytes)) = some (some (.int .i64 0), 1, 8) := by kernel_rfl
theorem all_nil (w : World) : Calls Try.prog 17 #[.pointer none] w fun e w' => e = .returned (.slice none 0 0) ∧ w' = w := by
  have HI := fun (k : Int) W => is_nil k W
  go_enter Try.func17, Try.ntmps17
  go_wp2_with fail
  go_loopw [3, 5] (fun v i wr => ∃ k : Nat, k ≤ 16 ∧ i = .int .i64 (k : Int) ∧ v = .slice none 0 0 ∧ wr = w) (fun _ i _ => 16 - (intOf i).toNat)
  case atStart => exact ⟨0, by omega, rfl, rfl, rfl⟩
  case round =>
    obtain ⟨k, hk, rfl, rfl, rfl⟩ := hrel
    by_cases hlt : k < 16
    · have hlt' : (k : Int) < 16 := by omega
      go_wp2_with (go_at_call 14; refine (HI _ _).mono ?_; rintro e w1 ⟨rfl, rfl⟩)
      go_roundw
      case rel => exact ⟨k + 1, by omega, by go_num, rfl, trivial⟩
      case measure => simp [intOf]; omega
    · have hnl : ¬ (k : Int) < 16 := by omega
      go_wp2_with fail
      go_ret
      exact ⟨rfl, rfl⟩
set_option maxHeartbeats 1000000 in
theorem all_any (r : Nat) (S : List Nat) (c : Nat → Pp) (w : World) (h : PsM r S c w) :
    Calls Try.prog 17 #[.pointer (some ⟨r, 0, none⟩)] w fun e w' => ∃ v, e = .returned v ∧ w'.ownsRow w.heap.size 3 1 v (allN (fun i => (c i).op) 16).length (ints (allN (fun i => (c i).op) 16)) ∧ Below w.heap.size w w' := by
  obtain ⟨i0, hi, hz0, hz1, hz2⟩ := info_parts info3
  obtain ⟨f, hf⟩ : ∃ f : Nat → Bool, f = fun i => (c i).op := ⟨_, rfl⟩
  have HI : ∀ (k : Nat) W, PsM r S c W → k < 16 → Calls Try.prog 14 #[.pointer (some ⟨r, 0, none⟩), .int .i64 (k : Int)] W fun e w' => e = .returned (.bool (f k)) ∧ w' = W := fun k W hW hk => by
    rw [hf]
    exact is_any r k S c W hW hk
  rw [← hf]
  have HP : Hid (PsM r S c w) := h
  clear h hf
  go_enter Try.func17, Try.ntmps17
  go_wp2_with fail
  go_loopw [3, 5] (fun v0 i wr => ∃ (v : Value) (k : Nat), v = v0 ∧ k ≤ 16 ∧ i = .int .i64 (k : Int) ∧ wr.ownsRow w.heap.size 3 1 v (allN f k).length (ints (allN f k)) ∧ Below w.heap.size w wr) (fun _ i _ => 16 - (intOf i).toNat)
  case atStart => exact ⟨_, 0, rfl, by omega, rfl, World.ownsRow_nil _ _ _ _, Below.refl _ _⟩
  case round =>
    obtain ⟨v, k, rfl, hk, rfl, ho, hb⟩ := hrel
    have HO : Hid (wr.ownsRow w.heap.size 3 1 v (allN f k).length (ints (allN f k))) := ho
    have HB : Hid (Below w.heap.size w wr) := hb
    have hln := allN_len f k
    have hsz := hb.size
    have HPW : Hid (PsM r S c wr) := HP.out.below hb
    clear ho hb
    by_cases hlt : k < 16
    · have hlt' : (k : Int) < 16 := by omega
      by_cases hop : f k = true
      · have H := HI k wr HPW.out hlt
        rw [hop] at H
        have EN : Hid (allN f (k + 1) = allN f k ++ [(k : Int)]) := if_pos hop
        clear hop
        go_wp2_with (first
          | (go_at_call 14; refine H.mono ?_; rintro e w1 ⟨rfl, rfl⟩)
          | (at_builtin; refine wpList_append_own _ rfl _ _ 38 rfl w.heap.size 3 i0 (.int .i64 0) 1 8 Try.underlying38 hi hz0 hz1 hz2 rfl (by decide) v _ _ rfl (World.ownsRow.alloc HO.out _) ⟨w1.heap.size, 0, none⟩ 1 1 [.int .i64 (k : Int)] rfl rfl (cell_one_new _ _ _) (ints_one [(k : Int)]) (by unfold maxLen; omega) (by omega) (by simp; omega) ?_; intro v2 w2 ho2 hg2 hn2; have HO2 : Hid _ := ho2; have HG2 : Hid _ := hg2; clear ho2 hg2 hn2))
        go_roundw
        case rel =>
          refine ⟨_, k + 1, rfl, by omega, by go_num, ?_, ?_⟩
          · rw [EN.out, ints_app, List.length_append]
            exact HO2.out
          · refine (HB.out.alloc (by omega) _).grown HG2.out (by simp; omega) fun g hg => ?_
            exact (World.ownsRow.lt HO.out g hg).1
        case measure => simp [intOf]; omega
      · have H := HI k wr HPW.out hlt
        rw [eq_false_of_ne_true hop] at H
        have EN : Hid (allN f (k + 1) = allN f k) := if_neg hop
        clear hop
        go_wp2_with (go_at_call 14; refine H.mono ?_; rintro e w1 ⟨rfl, rfl⟩)
        go_roundw
        case rel => exact ⟨_, k + 1, rfl, by omega, by go_num, by rw [EN.out]; exact HO.out, HB.out⟩
        case measure => simp [intOf]; omega
    · have hnl : ¬ (k : Int) < 16 := by omega
      have e16 : k = 16 := by omega
      subst e16
      go_wp2_with fail
      go_ret
      exact ⟨_, rfl, HO.out, HB.out⟩
end Go.Proofs.Yteejehbgmkanpaa
