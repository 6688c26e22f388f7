/-
  For every string and every list of integers the statement TagsPieces returns true and leaves its arguments as they were: in whatever pieces bytes come the tokens, the error and what isn't whole are the same.
  Conditions: the variables unicode/utf8.first, unicode/utf8.acceptRanges and tidewater/signs.standIns hold what the program's text lays in them (the card ties them to that text).
-/
import Derived.Test.YtdoekpodichhdaaDoorLawh
import Derived.Test.YtdoekpodichhdaaDoorLawi
import Derived.Test.YtdoekpodichhdaaDoorBase
import Derived.Test.YtdoekpodichhdaaDoorTie
import Derived.Test.YtdoekpodichhdaaDoorCards
namespace Go.Proofs.YtdoekpodichhdaaDoor
open Go Go.ChangeShapes Go.WideShapes Go.ChangeAt Go.RowKit
open Go.ChangeMaps (open_string shut_string)
theorem laidOutP : laidOutB Tryd.prog = true := by kernel_rfl
theorem cells3 : Tryd.prog.cellsOf 3 = 1 := by kernel_rfl
theorem pieces_walk (s : ByteArray) (aoC : Option Addr) (nC capC : Nat) (zs : List Int) (w : World) (hT : Tabs w) (hs : s.size ≤ maxLen) (hC : nC ≤ 9223372036854775807) (hcell : ∀ i, i < nC → ∃ ad, aoC = some ad ∧ w.cell? (ad.add i) = some (.int .i64 (zs.getD i 0))) :
    Calls Tryd.prog 4 #[.string s, .slice aoC nC capC] w fun e w' => e = .returned (.bool true) ∧ Below w.heap.size w w' := by
  by_cases h : nC ≤ 200
  · exact pieces_small s aoC nC capC zs w hT hs h hcell
  · exact pieces_big s aoC nC capC zs w hT hs (by omega) hC hcell
set_option maxRecDepth 100000 in
theorem tagsPieces_lifted (os : Os) (started : os.Started) (H : Type) (enc : TypeId × Value → H) :
    ReturnsInHanded {} Tryd.checked os 4 .any (fun w args => (Rows.tagsPiecesSpec.pre enc Tryd.prog Tryd.f4 [] false w args ∧ laidMetH Tryd.prog laid3 w) ∧ sizedMet enc Tryd.prog Tryd.f4 (OpenSpec.ofChange Rows.tagsPiecesSpec) false w args)
      (Rows.tagsPiecesSpec.post enc Tryd.prog Tryd.f4 false true false false) := by
  refine returnsInHanded_of_change_and (C := Tryd.checked) (X := fun w _ => laidMetH Tryd.prog laid3 w) (fun _ _ _ hh h => h.of_heap hh) own started (by kernel_rfl) Tryd.func4
    (ChangeSpec.witness_shaped (enc := enc) (C := Tryd.checked) (os := os) (X := fun w _ => laidMetH Tryd.prog laid3 w) false (World.laidAll Tryd.prog os laid3) #[.string ⟨#[]⟩, .slice none 0 0] 8 (World.laidAll_os _ _ _)
      (World.shaped_of_ZipB (by kernel_rfl) (by kernel_rfl)) (by kernel_rfl) (by kernel_rfl) (by kernel_rfl)
      (by rw [MakeChecks.laidMetH_plain _ _ _ (by kernel_rfl)]; exact laidMet_laidAll _ (by kernel_rfl) (by kernel_rfl))) ?_
  intro W base args ds gs before hval0 hW _ _ hL _
  have hval : ∀ (j : Nat) t v, Tryd.f4.params[j]? = some t → args[j]? = some v → Value.okWide Tryd.prog W .any base t v := hval0
  have hW' := hW
  obtain ⟨p, q, hA0, hV, rfl, _, _⟩ := hW
  have hA : DataW.TrodAll enc Tryd.prog W 0 (fun _ => true) true Tryd.f4.params.toList args.toList ds p := hA0
  rw [Tryd.params4] at hA hval
  obtain ⟨v0, v1, d0, d1, p0, p1, rfl, rfl, rfl, h0, h1⟩ := trodAll_two hA
  obtain ⟨rfl, rfl⟩ := trodVars_none hV
  obtain ⟨s, rfl, rfl, rfl, hs⟩ := open_string Tryd.underlying9 (hval 0 9 v0 rfl rfl) h0
  obtain ⟨a1, len, cap, rfl⟩ := okWide_slice Tryd.underlying37 (hval 1 37 v1 rfl rfl)
  have h1k := h1
  obtain ⟨fuel, hf⟩ := h1
  simp only [List.append_nil, List.nil_append] at hW'
  have hT := tabs_of_laid hL
  have hlt : ∀ x ∈ p1, x.block < W.heap.size := fun x hx => by simpa using hW'.lt x hx
  have hargs : ∀ (W' : World), Below W.heap.size W W' → DataW.Trod enc Tryd.prog W' 0 (fun b => decide (b < W.heap.size)) true 37 (.slice a1 len cap) d1 p1 :=
    fun W' hn => Below.trod laidOutP (by kernel_rfl) (of_decide_eq_true (by kernel_rfl)) h1k hn hlt
  have fin : ∀ zs : List Int, len ≤ 9223372036854775807 → (∀ i, i < len → ∃ ad, a1 = some ad ∧ W.cell? (ad.add i) = some (.int .i64 (zs.getD i 0))) → Calls Tryd.checked.prog 4 #[.string s, .slice a1 len cap] W fun e W' => ∃ v, e = Ending.returned v ∧ Rows.tagsPiecesSpec.post enc Tryd.checked.prog Tryd.f4 false true false false W #[.string s, .slice a1 len cap] v W' := by
    intro zs hl hc
    refine (pieces_walk s a1 len cap zs W hT hs hl hc).mono fun e W' ⟨he, hb⟩ => ?_
    subst he
    exact ⟨_, rfl, _, _, _, [], _, [], hW', trodAll_mk1 (shut_bool Tryd.underlying4 _), trodAll_mk2 (shut_string Tryd.underlying9 hs) (hargs _ hb), rfl, hb.frame _, fun h => by cases h⟩
  rcases open_ints Tryd.underlying37 Tryd.underlying3 cells3 hf with ⟨hcs, hx⟩ | ⟨a, len', cap', zs, hcs, _, hl, hm, hz, hx, hcell, hwz⟩
  · simp [Value.cells] at hcs
    obtain ⟨rfl, rfl, rfl⟩ := hcs
    exact fin [] (by decide) (fun i hi => absurd hi (Nat.not_lt_zero _))
  · simp [Value.cells] at hcs
    obtain ⟨rfl, rfl, rfl⟩ := hcs
    simp only [if_true] at hz
    refine fin zs (by unfold maxLen at hm; omega) (fun i hi => ⟨a, rfl, hcell i (by omega)⟩)

theorem tagsPieces_holds : Rows.TagsPiecesSaid :=
  OpenClaim.holds_of_wide 4 Tryd.f4 rfl rfl rfl rfl rfl rfl rfl ⟨rfl, rfl, rfl, rfl, rfl⟩ rfl rfl rfl rfl rfl (by kernel_rfl) Tryd.func4 (by kernel_rfl)
    (of_decide_eq_true (by kernel_rfl)) (by unfold Func.isWrapper; first | (rw [if_pos (by decide +kernel)]; kernel_rfl) | (rw [if_neg (by decide +kernel)]; exact ⟨rfl, rfl⟩))
    (fun os started H enc _ => tagsPieces_lifted os started H enc)
theorem tagsPieces_card_holds : Rows.TagsPiecesCardSaid :=
  Claim7.holds_tied_plain_at .later [] [.data, .data, .pinned] true (true, "5d1435c6da4c6c24d4ef4d61dc53f6fafe83253b1a4e2780cd06d3ad2301db86") false
    tagsPieces_holds (fun _ h => by cases h) (by kernel_rfl) (fun _ h => by cases h) tagsPieces_row_tie rfl ⟨rfl, rfl⟩ (by kernel_rfl) rfl
    (fun f fn hf hfn => by
      obtain rfl : f = 4 := Option.some.inj ((show Tryd.prog.funcNamed "tidewater/tidewaterlaw02.TagsPieces" = some 4 by kernel_rfl).symm.trans hf) |>.symm
      obtain rfl : fn = Tryd.f4 := (Option.some.inj (Tryd.func4.symm.trans hfn)).symm
      exact ⟨by kernel_rfl, fun j t ht => by
        rw [Tryd.params4] at ht
        have hm : t ∈ ([9, 37] : List TypeId) := by simpa using Array.mem_of_getElem? ht
        have hall : (([9, 37] : List TypeId).all fun u => !Tryd.prog.wantsStandIn u) = true := by kernel_rfl
        exact (show Tryd.prog.wantsStandIn t = false by simpa using List.all_eq_true.1 hall t hm)⟩)
    (by kernel_rfl)
end Go.Proofs.YtdoekpodichhdaaDoor
