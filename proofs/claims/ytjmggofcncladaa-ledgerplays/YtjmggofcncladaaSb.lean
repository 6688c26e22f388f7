/-
  Rows of texts that stay; a row that was just laid.
-/
import Derived.Test.YtjmggofcncladaaSa
namespace Go.Proofs.Ytjmggofcncladaa
open Go Go.RowKit
theorem RowS.mono {w w' : World} {ao : Option Addr} {l : List ByteArray} (h : RowS w ao l) (hc : ∀ a v, w.cell? a = some v → w'.cell? a = some v) : RowS w' ao l := fun i s hs => by
  obtain ⟨ad, h1, h2⟩ := h i s hs
  exact ⟨ad, h1, hc _ _ h2⟩
theorem RowS.below {w w' : World} {ao : Option Addr} {l : List ByteArray} (h : RowS w ao l) (hb : Below w.heap.size w w') : RowS w' ao l :=
  h.mono fun _ _ hv => (hb.cell (World.block_lt_of_cell? w _ hv)).trans hv
theorem row_block {w : World} {g : Nat} {cur : Array Value} {T : TypeId} {fr : Nat × Nat} {l : List ByteArray} (h : w.heap[g]? = some (.cells cur T fr)) (hc : ∀ (i : Nat) (s : ByteArray), l[i]? = some s → cur[i]? = some (Value.string s)) : RowS w (some ⟨g, 0, none⟩) l := by
  intro i s hs
  have hadd : (⟨g, 0, none⟩ : Addr).add i = ⟨g, i, none⟩ := by unfold Addr.add; split <;> simp_all
  refine ⟨_, rfl, ?_⟩
  rw [hadd]
  have := hc i s hs
  simp [World.cell?, h, this]
theorem two_cells {a b : ByteArray} : ∀ (i : Nat) (s : ByteArray), [a, b][i]? = some s → (#[Value.string a, Value.string b] : Array Value)[i]? = some (Value.string s)
  | 0, _, h => by cases h; rfl
  | 1, _, h => by cases h; rfl
  | _ + 2, _, h => by simp at h
/-- A row of integers, as it lies. -/
def RowN (w : World) (ao : Option Addr) (n : Nat) (y : Nat → Int) : Prop := ∀ i, i < n → ∃ ad, ao = some ad ∧ w.cell? (ad.add i) = some (.int .i64 (y i))
theorem one_cell {a : ByteArray} : ∀ (i : Nat) (s : ByteArray), [a][i]? = some s → (#[Value.string a] : Array Value)[i]? = some (Value.string s)
  | 0, _, h => by cases h; rfl
  | _ + 1, _, h => by simp at h
theorem TxAt.cap_le {B : Nat} {ao : Option Addr} {cap : Nat} {l : List ByteArray} {w : World} (h : TxAt B ao cap l w) : l.length ≤ cap := by
  rcases h.2 with ⟨_, h2⟩ | ⟨g, cap', cur, h1, _, _, h4, _⟩
  · omega
  · rw [(Value.slice.inj h1).2.2]; exact h4
theorem RowS.take {w : World} {ao : Option Addr} {l : List ByteArray} (h : RowS w ao l) (k : Nat) : RowS w ao (l.take k) := fun i s hs => h i s (by rw [List.getElem?_take] at hs; split at hs; exact hs; cases hs)
def lenV : Value → Nat
  | .slice _ n _ => n
  | _ => 0
end Go.Proofs.Ytjmggofcncladaa
