/-
  The walk of the statement StanzaNames over this program, whole: its lives reads and writes a presence.
-/
import Derived.Test.YtmmkfpeckfmjeaaDoorTxi
import Derived.Test.YtmmkfpeckfmjeaaDoorTxp
namespace Go.Proofs.YtmmkfpeckfmjeaaDoor
open Go Go.RowKit Go.Maps Go.Sort
theorem a1 : valN x1.attrs [116, 121, 112, 101] = [] := rfl
theorem a2 : valN x1.attrs [102, 114, 111, 109] = [] := rfl
theorem a3 : valN x1.attrs [116, 111] = [] := rfl
theorem a4 : kidT x1 = [97, 119, 97, 121] := rfl
theorem read1 (W : World) (r : Nat) (hA : At r #[.string ⟨#[115, 104, 111, 119]⟩, .slice none 0 0, .string ⟨#[97, 119, 97, 121]⟩, .slice none 0 0] 29 W) (hV : Va W) : Calls Tryd.prog 8 #[.agg #[.string ⟨#[112, 114, 101, 115, 101, 110, 99, 101]⟩, .slice none 0 0, .string ⟨#[]⟩, .slice (some ⟨r, 0, none⟩) 1 1]] W fun e w' => e = .returned (.tuple #[.agg (staC 1 ⟨#[]⟩ ⟨#[]⟩ ⟨#[]⟩ ⟨#[]⟩ ⟨#[97, 119, 97, 121]⟩ ⟨#[]⟩ ⟨#[]⟩ 0 0 false none 0 0), .int .i64 0]) ∧ Below W.heap.size W w' := by
  have hK : ElE Tr' W ⟨[115, 104, 111, 119], [], [97, 119, 97, 121], []⟩ (.string ⟨#[115, 104, 111, 119]⟩) (.slice none 0 0) (.string ⟨#[97, 119, 97, 121]⟩) (.slice none 0 0) :=
    ElE.mk (e := ⟨[115, 104, 111, 119], [], [97, 119, 97, 121], []⟩) (xs := []) (row_nil _ _ _ _) (row_nil _ _ _ _) rfl
  have hE : ElE Tr' W x1 (.string ⟨#[112, 114, 101, 115, 101, 110, 99, 101]⟩) (.slice none 0 0) (.string ⟨#[]⟩) (.slice (some ⟨r, 0, none⟩) 1 1) := by
    refine ElE.mk (e := x1) (xs := [.string ⟨#[115, 104, 111, 119]⟩, .slice none 0 0, .string ⟨#[97, 119, 97, 121]⟩, .slice none 0 0]) (row_nil _ _ _ _) ⟨_, _, rfl, fun i x hx => ⟨_, rfl, trivial, ?_⟩⟩ ⟨_, _, _, _, [], rfl, hK, rfl⟩
    have hadd : (⟨r, 0, none⟩ : Addr).add i = ⟨r, i, none⟩ := by unfold Addr.add; split <;> simp_all
    rw [hadd, Lib.cell_of_heap hA, ← Array.getElem?_toList]
    exact hx
  refine read_ok x1 1 _ _ _ _ W hE sz1 hV kind1 (by omega) (by omega) fits1' ⟨#[]⟩ ⟨#[]⟩ ⟨#[]⟩ ⟨#[]⟩ ⟨#[97, 119, 97, 121]⟩ ⟨#[]⟩ ⟨#[]⟩ 0 0 false none 0 0 (fun W' hb => ?_) rfl
  exact told1_any x1 _ _ _ _ W' (hE.below hb) sz1.one _ _ _ _ a1 a2 a3 a4
theorem lives_all (w : World) (hV : Va w) : Calls Tryd.prog 6 #[] w fun e w' => e = .returned (.bool true) ∧ Below w.heap.size w w' := lives_any w hV fun W r hA hV' => read1 W r hA hV'
theorem names_all (s t : ByteArray) (hs : s.size ≤ 281474976710656) (ht : t.size ≤ 281474976710656) (w : World) (hV : Va w) :
    Calls Tryd.prog 4 #[.string s, .string t] w fun e w' => e = .returned (.bool true) ∧ Below w.heap.size w w' := names_walk s t hs ht w fun W hb => lives_all W (hV.below hb)
end Go.Proofs.YtmmkfpeckfmjeaaDoor
