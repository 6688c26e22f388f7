/-
  The contracts of ring.New and (*Ring).At over this program.
-/
import Derived.Test.YtdcocbichlmgfaaRa
import Derived.Deep.OwnRows
namespace Go.Proofs.Ytdcocbichlmgfaa
open Go Go.RowKit
/-- How many places a ring has. -/
def nz (z : Int) : Nat := (min (max z 1) 64).toNat
theorem nz_b (z : Int) : 0 < nz z ∧ nz z ≤ 64 := by unfold nz; omega
theorem info9 : (Try.prog.info? 9).map (fun i => (i.zero, i.size, i.bytes)) = some (some (.string ⟨#[]⟩), 1, 16) := by kernel_rfl
theorem made_strs (n : Nat) : madeCells #[Value.string ⟨#[]⟩] n = (strs (List.replicate n ⟨#[]⟩)).toArray := by
  apply Array.toList_inj.1
  rw [toList_madeCells_one]
  simp [strs]
set_option maxHeartbeats 400000 in
theorem new_any (z : Int) (w : World) : Calls Try.prog 10 #[.int .i64 z] w fun e w' => e = .returned (.pointer (some ⟨w.heap.size + 1, 0, none⟩)) ∧ RgAt (w.heap.size + 1) w.heap.size (nz z) 0 [] w' ∧ Below w.heap.size w w' := by
  have hn := nz_b z
  obtain ⟨m1, hm1⟩ : ∃ m1, (if z < 1 then (1 : Int) else z) = m1 := ⟨_, rfl⟩
  have hm2 : (if 64 < m1 then (64 : Int) else m1) = (nz z : Int) := by
    rw [← hm1]; unfold nz
    split <;> split <;> omega
  obtain ⟨n, hn'⟩ : ∃ n, nz z = n := ⟨_, rfl⟩
  rw [hn'] at hn hm2 ⊢
  have hmk := run_make_row' (P := Try.prog) 35 9 (.string ⟨#[]⟩) 16 Try.underlying35 info9 rfl .i64 .i64 n (by omega) (by omega)
  have HN : Hid (0 < n ∧ n ≤ 64) := hn
  clear hn' hn
  go_enter Try.func10, Try.ntmps10
  go_wp2_with fail
  go_ret
  obtain ⟨h0, h6⟩ := HN.out
  refine ⟨rfl, ⟨h0, h6, h0, Nat.zero_le _, ?_, List.replicate n ⟨#[]⟩, ⟨List.length_replicate, ?_⟩, fun i hi => by simp at hi⟩, ?_⟩
  · show _ = _
    have := heap_alloc_new (w.alloc (.cells (madeCells #[Value.string ⟨#[]⟩] n) 9)) (.cells #[.slice (some ⟨w.heap.size, 0, none⟩) n n, .int .i64 0, .int .i64 0] 50)
    simpa using this
  · rw [Below.heap_alloc _ _ _ (by simp), heap_alloc_new, made_strs]
  · exact ((Below.refl _ w).alloc (Nat.le_refl _) _).alloc (by simp) _
/-- (*Ring).At where there is such a text. -/
theorem at_in (r p n f : Nat) (l : List ByteArray) (i : Nat) (s : ByteArray) (w : World) (h : RgAt r p n f l w) (hs : l[i]? = some s) :
    Calls Try.prog 21 #[.pointer (some ⟨r, 0, none⟩), .int .i64 (i : Int)] w fun e w' => e = .returned (.tuple #[.string s, .bool true]) ∧ ∃ m, w' = w.drewN m := by
  have hi : i < l.length := (List.getElem?_eq_some_iff.1 hs).1
  have hln := h.ln
  have h64 := h.n64
  obtain ⟨g, hp, hg⟩ := h.pl
  have hgs := (hg i hi).trans hs
  have HC := hp.cell hgs
  have hml := Nat.mod_lt (f + i) h.n0
  have HP := fun W hh => place_any r p n f l.length i W hh h.n0 h.n64 h.fn (by omega)
  have HL := fun W hh => len_any r p n f l.length W hh
  obtain ⟨y, hy⟩ : ∃ y, (f + i) % n = y := ⟨_, rfl⟩
  rw [hy] at HC hml HP
  have HH : Hid (HdAt r p n f l.length w) := h.hd
  have c0 := h.hd.c0
  obtain ⟨c, hc⟩ : ∃ c, l.length = c := ⟨_, rfl⟩
  rw [hc] at hi HL HP HH
  have i0 : ¬ (i : Int) < 0 := by omega
  have i1 : ¬ (c : Int) ≤ (i : Int) := by omega
  have y0 : (0 : Int) ≤ (y : Int) := by omega
  have y1 : (y : Int) < (n : Int) := by omega
  clear h hp hg hgs hy hs
  go_enter Try.func21, Try.ntmps21
  go_wp2_with (go_at_call 22; refine (HL _ HH.out).mono ?_; rintro e w1 ⟨rfl, rfl⟩)
  go_quiet ((go_at_call 25; refine Calls.quiet_of (HP _ ?_); exact HH.out))
  go_wp2_with fail
  go_ret2
  exact ⟨rfl, _, rfl⟩
theorem at_out (r p n f : Nat) (l : List ByteArray) (i : Int) (w : World) (h : RgAt r p n f l w) (hs : ¬ (0 ≤ i ∧ i < l.length)) :
    Calls Try.prog 21 #[.pointer (some ⟨r, 0, none⟩), .int .i64 i] w fun e w' => e = .returned (.tuple #[.string ⟨#[]⟩, .bool false]) ∧ w' = w := by
  have HL := fun W hh => len_any r p n f l.length W hh
  have HH : Hid (HdAt r p n f l.length w) := h.hd
  obtain ⟨c, hc⟩ : ∃ c, l.length = c := ⟨_, rfl⟩
  rw [hc] at HL HH hs
  clear h
  by_cases i0 : i < 0
  · clear hs
    go_enter Try.func21, Try.ntmps21
    go_wp2_with fail
    go_ret2
    exact ⟨rfl, rfl⟩
  · have i1 : (c : Int) ≤ i := by omega
    clear hs
    go_enter Try.func21, Try.ntmps21
    go_wp2_with (go_at_call 22; refine (HL _ HH.out).mono ?_; rintro e w1 ⟨rfl, rfl⟩)
    go_ret2
    exact ⟨rfl, rfl⟩
theorem at_nil (i : Int) (w : World) :
    Calls Try.prog 21 #[.pointer none, .int .i64 i] w fun e w' => e = .returned (.tuple #[.string ⟨#[]⟩, .bool false]) ∧ w' = w := by
  have HL := fun W => len_nil W
  by_cases i0 : i < 0
  · go_enter Try.func21, Try.ntmps21
    go_wp2_with fail
    go_ret2
    exact ⟨rfl, rfl⟩
  · have i1 : (0 : Int) ≤ i := by omega
    go_enter Try.func21, Try.ntmps21
    go_wp2_with (go_at_call 22; refine (HL _).mono ?_; rintro e w1 ⟨rfl, rfl⟩)
    go_ret2
    exact ⟨rfl, rfl⟩
end Go.Proofs.Ytdcocbichlmgfaa
