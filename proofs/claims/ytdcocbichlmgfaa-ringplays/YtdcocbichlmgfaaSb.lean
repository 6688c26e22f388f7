/-
  The statements' own first look (lives) over this program.
-/
import Derived.Test.YtdcocbichlmgfaaSa
namespace Go.Proofs.Ytdcocbichlmgfaa
open Go Go.RowKit
theorem RowS.mono {w w' : World} {ao : Option Addr} {l : List ByteArray} (h : RowS w ao l) (hc : ∀ a v, w.cell? a = some v → w'.cell? a = some v) : RowS w' ao l := fun i s hs => by
  obtain ⟨ad, h1, h2⟩ := h i s hs
  exact ⟨ad, h1, hc _ _ h2⟩
theorem RowS.below {w w' : World} {ao : Option Addr} {l : List ByteArray} (h : RowS w ao l) (hb : Below w.heap.size w w') : RowS w' ao l :=
  h.mono fun _ _ hv => (hb.cell (World.block_lt_of_cell? w _ hv)).trans hv
theorem row_block {w : World} {g : Nat} {cur : Array Value} {T : TypeId} {fr : Nat × Nat} {l : List ByteArray} (h : w.heap[g]? = some (.cells cur T fr)) (hc : ∀ (i : Nat) (s : ByteArray), l[i]? = some s → cur[i]? = some (Value.string s)) : RowS w (some ⟨g, 0, none⟩) l := by
  intro i s hs
  have hadd : (⟨g, 0, none⟩ : Addr).add i = ⟨g, i, none⟩ := by unfold Addr.add; split <;> simp_all
  refine ⟨_, rfl, ?_⟩
  rw [hadd]
  have := hc i s hs
  simp [World.cell?, h, this]
theorem two_cells {a b : ByteArray} : ∀ (i : Nat) (s : ByteArray), [a, b][i]? = some s → (#[Value.string a, Value.string b] : Array Value)[i]? = some (Value.string s)
  | 0, _, h => by cases h; rfl
  | 1, _, h => by cases h; rfl
  | _ + 2, _, h => by simp at h
set_option maxHeartbeats 1000000 in
theorem lives_any (w : World) : Calls Try.prog 9 #[] w fun e w' => e = .returned (.bool true) ∧ Below w.heap.size w w' := by
  go_enter Try.func9, Try.ntmps9
  go_wp2_with (first
    | (go_at_call 10; refine (new_any _ _).mono ?_; rintro e w1 ⟨rfl, hr1, hb1⟩)
    | (go_at_call_of 14 (Value.string ⟨#[97]⟩); refine (push_ok _ _ _ _ _ _ _ hr1 (by decide)).mono ?_; rintro e w2 ⟨rfl, hr2, hf2⟩)
    | (go_at_call_of 14 (Value.string ⟨#[98]⟩); refine (push_ok _ _ _ _ _ _ _ hr2 (by decide)).mono ?_; rintro e w3 ⟨rfl, hr3, hf3⟩)
    | (go_at_call_of 14 (Value.string ⟨#[99]⟩); refine (push_ok _ _ _ _ _ _ _ hr4 (by decide)).mono ?_; rintro e w5 ⟨rfl, hr5, hf5⟩)
    | (go_at_call_of 14 (Value.string ⟨#[99]⟩); refine (push_full _ _ _ _ _ _ _ hr3 (by decide)).mono ?_; rintro e w3 ⟨rfl, rfl⟩)
    | (go_at_call 16; refine (drop_ok _ _ _ _ _ 1 _ hr3 (by decide)).mono ?_; rintro e w4 ⟨rfl, hr4, hf4⟩)
    | (go_at_call 24; refine (list_any _ _ _ _ _ _ hr5).mono ?_; rintro e w6 ⟨⟨ao, cap, rfl, ht⟩, hb6⟩)
    | (go_at_call 18; refine (same_any _ _ _ _ [⟨#[98]⟩, ⟨#[99]⟩] _ ?_ ?_ (by decide)).mono ?_; exact (RowS.below (l := [⟨#[98]⟩, ⟨#[99]⟩]) ht.row ((Below.refl _ w6).alloc (Nat.le_refl _) _)); exact row_block (heap_alloc_new w6 _) two_cells; rintro e w7 ⟨rfl, mm, rfl⟩))
  go_ret
  refine ⟨rfl, ?_⟩
  have s1 := hb1.size
  have s2 := hf2.1.size
  have s3 := hf3.1.size
  have s4 := hf4.1.size
  have s5 := hf5.1.size
  have b5 : Below w.heap.size w w5 := (((hb1.trans (hf2.below s1 (by omega) (by omega))).trans (hf3.below (by omega) (by omega) (by omega))).trans (hf4.below (by omega) (by omega) (by omega))).trans (hf5.below (by omega) (by omega) (by omega))
  exact below_drewN ((b5.trans (hb6.mono (by omega))).alloc (by have := hb6.size; omega) _)
end Go.Proofs.Ytdcocbichlmgfaa
