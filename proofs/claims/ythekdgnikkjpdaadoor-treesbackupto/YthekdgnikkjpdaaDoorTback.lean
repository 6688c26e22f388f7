/-
  For every list of elements of a bulk of at most 1048576 the statement TreesBack returns true and leaves its argument as it was: what is written is read, within a stream, as the same element, whatever stands ahead of it and behind it.
  Conditions: the bulk; the variables unicode/utf8.first, unicode/utf8.acceptRanges and tidewater/signs.standIns hold what the program's text lays in them (the card ties them to that text).
-/
import Derived.Test.YthekdgnikkjpdaaDoorRows
import Derived.Test.YthekdgnikkjpdaaDoorWalkk
import Derived.ProofKit
import Derived.OpenShut
import Derived.Stop.Joined
import Derived.PinnedBridge
import Derived.Lay
import Derived.Lib.LaidU8T
import Derived.SevenTiedAt
import Derived.LaidMore
import Derived.Test.YthekdgnikkjpdaaDoorBkw
import Derived.Test.YthekdgnikkjpdaaDoorTie
import Derived.Test.YthekdgnikkjpdaaDoorCards
import Derived.Deep.DeepHandedRow
import Derived.Lib.LaidTab
namespace Go.Proofs.YthekdgnikkjpdaaDoor
open Go.ChangeShapes Go.WideShapes Go.ChangeAt Go.RowKit
theorem own : ownKnob Tryd.prog.godebug = none := by kernel_rfl
def laid3 : List (String × DataW Unit) := [("unicode/utf8.acceptRanges", Rows.laid_unicode_utf8_acceptRanges), ("tidewater/signs.standIns", Rows.laid_tidewater_signs_standIns), ("unicode/utf8.first", Rows.laid_unicode_utf8_first)]
def ren : Go.Shelf.Ren := ⟨fun n => n, fun | 5 => 5 | 119 => 128 | 138 => 130 | 139 => 131 | n => n, fun | 3 => 1 | 4 => 2 | n => n⟩
theorem u8types : U8Types Tryd.prog ren := ⟨by kernel_rfl, by kernel_rfl, by kernel_rfl, by kernel_rfl⟩
theorem u8extra : U8Extra Tryd.prog ren := ⟨by kernel_rfl, by kernel_rfl, by kernel_rfl, by kernel_rfl, by kernel_rfl, by kernel_rfl, by kernel_rfl⟩
theorem accept_eq : Rows.laid_unicode_utf8_acceptRanges = Lib.acceptData := by kernel_rfl
theorem first_eq : Rows.laid_unicode_utf8_first = Lib.firstData := Pinned.utf8First_eq
theorem gStand : Tryd.prog.globalNamed "tidewater/signs.standIns" = some 0 := by kernel_rfl
theorem tStand : (Tryd.prog.globals[0]?).map (·.type) = some 121 := by kernel_rfl
theorem c61 : Tryd.prog.cellsOf 121 = 10 := by kernel_rfl
theorem c53 : Tryd.prog.cellsOf 120 = 2 := by kernel_rfl
theorem c21 : Tryd.prog.cellsOf 21 = 1 := by kernel_rfl
theorem c9 : Tryd.prog.cellsOf 9 = 1 := by kernel_rfl
set_option maxRecDepth 100000 in
theorem pair_is {H : Type} {enc : TypeId × Value → H} {w : World} {base : Nat} {sp : Nat → Bool} {held : Bool} {fuel : Nat} {cs : List Value} {n : Int} {bs : List UInt8} {q : List MemPlace}
    (h : DataW.trod enc Tryd.prog w base sp held fuel 120 cs = some (.agg [.lit (.int .i32 n), .lit (.string bs)], q)) : cs = [.int .i32 n, .string ⟨bs.toArray⟩] := by
  obtain ⟨y0, y1, m, hx, hl, h0, h1⟩ := trod_struct2 Tryd.underlying120 h
  rw [c53] at hl
  obtain ⟨k, e0, e0', _⟩ := DataW.trod_int Tryd.underlying21 h0
  obtain ⟨s, e1, e1', _⟩ := DataW.trod_string Tryd.underlying9 h1
  subst e0'
  subst e1'
  simp only [Prod.mk.injEq, DataW.agg.injEq, List.cons.injEq, DataW.lit.injEq, Lit.int.injEq, Lit.string.injEq, true_and, and_true] at hx
  obtain ⟨⟨rfl, rfl⟩, _⟩ := hx
  match cs, hl with
  | [a, b], _ =>
    simp [c21, c9] at e0 e1
    rw [e0, e1]
set_option maxRecDepth 100000 in
theorem tabs_of_laid {W : World} (h : laidMetH Tryd.prog laid3 W) : Tabs W := by
  rw [MakeChecks.laidMetH_plain _ _ _ (by kernel_rfl)] at h
  have r1 := Lib.laidMet.reads h (n := "unicode/utf8.acceptRanges") (d := Rows.laid_unicode_utf8_acceptRanges) (.head _)
  have r2 := Lib.laidMet.reads h (n := "tidewater/signs.standIns") (d := Rows.laid_tidewater_signs_standIns) (.tail _ (.head _))
  have r3 := Lib.laidMet.reads h (n := "unicode/utf8.first") (d := Rows.laid_unicode_utf8_first) (.tail _ (.tail _ (.head _)))
  rw [accept_eq] at r1
  rw [first_eq] at r3
  refine ⟨utf8Tabs_of_readsT u8types u8extra r3 r1, ?_⟩
  obtain ⟨g, t, cs, fuel, p, hg, hty, hvar, hd⟩ := r2
  obtain rfl := Option.some.inj (gStand.symm.trans hg)
  obtain rfl := Option.some.inj (tStand.symm.trans hty)
  obtain ⟨xs, m, rfl, hx, hlen, hn, hel⟩ := DataW.trod_array Tryd.underlying121 hd
  rw [c61] at hlen
  simp only [c53] at hel
  have hcs : cs = standCells := by
    simp only [Prod.mk.injEq, Rows.laid_tidewater_signs_standIns, DataW.agg.injEq] at hx
    match xs, hn, hx with
    | [x0, x1, x2, x3, x4], _, hx =>
      simp only [List.map_cons, List.map_nil, List.cons.injEq, and_true] at hx
      obtain ⟨⟨k0, k1, k2, k3, k4⟩, _⟩ := hx
      have j0 := pair_is ((hel 0 (by decide)).trans (show _ = some (_, x0.2) by rw [k0]; rfl))
      have j1 := pair_is ((hel 1 (by decide)).trans (show _ = some (_, x1.2) by rw [k1]; rfl))
      have j2 := pair_is ((hel 2 (by decide)).trans (show _ = some (_, x2.2) by rw [k2]; rfl))
      have j3 := pair_is ((hel 3 (by decide)).trans (show _ = some (_, x3.2) by rw [k3]; rfl))
      have j4 := pair_is ((hel 4 (by decide)).trans (show _ = some (_, x4.2) by rw [k4]; rfl))
      obtain ⟨l⟩ := cs
      simp only at hlen j0 j1 j2 j3 j4
      match l, hlen with
      | [a0, a1, a2, a3, a4, a5, a6, a7, a8, a9], _ =>
        simp at j0 j1 j2 j3 j4
        rw [j0.1, j0.2, j1.1, j1.2, j2.1, j2.2, j3.1, j3.2, j4.1, j4.2]
        rfl
  subst hcs
  simp only [World.var?, hg, Option.bind_some] at hvar
  split at hvar
  · rename_i cs t fr hh
    cases hvar
    exact ⟨t, fr, hh⟩
  · cases hvar
end Go.Proofs.YthekdgnikkjpdaaDoor
namespace Go.Proofs.YthekdgnikkjpdaaDoor
open Go Go.ChangeShapes Go.WideShapes Go.ChangeAt Go.RowKit
set_option maxRecDepth 100000 in
theorem back_contract (H : Type) (enc : TypeId × Value → H) (W : World) (base : Nat) (args : Array Value) (ds gs : List (DataW H)) (before : List MemPlace)
    (hval : ∀ (j : Nat) t v, Tryd.f4.params[j]? = some t → args[j]? = some v → Value.okWide Tryd.prog W .any base t v)
    (hW : DataW.Whole enc Tryd.prog Tryd.f4.params.toList Rows.treesBackSpec.vars false W args.toList ds gs before) (hL : laidMetH Tryd.prog laid3 W) (hk : Rows.uptoSmall H (ds ++ gs) = true) :
    Calls Tryd.prog 4 args W fun e W' => ∃ v, e = .returned v ∧ Rows.treesBackSpec.post enc Tryd.prog Tryd.f4 false true false false W args v W' := by
  have hW' := hW
  have hlt := hW.lt
  obtain ⟨p, q, hA0, hV, rfl, _, _⟩ := hW
  have hA : DataW.TrodAll enc Tryd.prog W 0 (fun _ => true) true Tryd.f4.params.toList args.toList ds p := hA0
  rw [Tryd.params4] at hA hval
  obtain ⟨v0, d0, rfl, rfl, h0⟩ := trodAll_one hA
  obtain ⟨rfl, rfl⟩ := trodVars_none hV
  simp only [List.append_nil] at hW' hlt hk
  have hbk : Rows.uptoBulkAll [d0] ≤ 1048576 := of_decide_eq_true hk
  simp only [Rows.uptoBulkAll] at hbk
  obtain ⟨a, len, cp, rfl⟩ := okWide_slice Tryd.underlying30 (hval 0 30 v0 rfl rfl)
  have h0' := h0
  obtain ⟨fuel, h1⟩ := h0'
  obtain ⟨ao, cap, ls, hv, hcap, hls⟩ := open_elems (v := .slice a len cp) h1 (by simp only; omega)
  obtain ⟨rfl, rfl, rfl⟩ := Value.slice.inj hv
  have hT := tabs_of_laid hL
  refine (back_walk a cp ls W hT hls hcap).mono fun e W' ⟨he, hb⟩ => ?_
  subst he
  exact ⟨_, rfl, _, _, _, [], _, [], hW', trodAll_mk1 (shut_bool Tryd.underlying4 _), trodAll_mk1 (Below.trod (by kernel_rfl) (by kernel_rfl) (of_decide_eq_true (by kernel_rfl)) h0 hb hlt), rfl, hb.frame _, fun h => by cases h⟩
theorem back_reads (os : Os) {H : Type} (enc : TypeId × Value → H) : ∃ places, DataW.whole enc Tryd.prog ((World.laidAll Tryd.prog os laid3).forCall (fun _ _ => 0) ⟨#[], #[.slice none 0 0], []⟩).memory Tryd.f4.params.toList Rows.treesBackSpec.vars false #[Value.slice none 0 0].toList 8 = some ([.nil], [], places) :=
  ⟨[], by kernel_rfl⟩
set_option maxRecDepth 100000 in
theorem back_lifted (os : Os) (started : os.Started) (H : Type) (enc : TypeId × Value → H) (F : Stop.Interp) :
    ReturnsInHanded {} Tryd.checked os 4 .any ((Rows.OpenSpec.upto Rows.treesBackSpec).preRow enc Tryd.prog Tryd.f4 Rows.treesBackUptoRow.domain false Rows.treesBackUptoRow.laid) (((Rows.OpenSpec.upto Rows.treesBackSpec).at F).post enc Tryd.prog Tryd.f4 false true false false) := by
  obtain ⟨places, hx⟩ := back_reads os enc
  refine returnsInHanded_of_row (C := Tryd.checked) (s := Rows.OpenSpec.upto Rows.treesBackSpec) own started (by kernel_rfl) Tryd.func4
    ⟨World.laidAll Tryd.prog os laid3, fun _ _ => 0, ⟨#[], #[.slice none 0 0], []⟩, World.laidAll_os _ _ _, World.shaped_of_ZipB (by kernel_rfl) (by kernel_rfl), rfl, (Input.okWide_of_okWideB (by kernel_rfl)).2,
      OpenSpec.preRow_of_cond 8 hx (by kernel_rfl) (fun k hk => by cases hk; kernel_rfl) (by kernel_rfl) (by show laidMetH Tryd.prog laid3 _; rw [MakeChecks.laidMetH_plain _ _ _ (by kernel_rfl)]; exact laidMet_laidAll _ (by kernel_rfl) (by kernel_rfl)),
      by
        simp only [Assume.holds]
        exact ⟨by simp, by simp, fun _ => Modest.zero, by simp, by simp⟩⟩ ?_
  intro W base args ds gs before hval hW _ hcond _ hL _ _
  exact back_contract H enc W base args ds gs before hval hW hL (hcond _ rfl)
theorem treesBackUpto_holds : Rows.TreesBackUptoSaid :=
  OpenClaim.holds_of_cond 4 Tryd.f4 rfl rfl rfl rfl rfl rfl rfl ⟨rfl, rfl, rfl, rfl, rfl⟩ rfl rfl rfl rfl rfl (by kernel_rfl) Tryd.func4 (by kernel_rfl)
    (of_decide_eq_true (by kernel_rfl)) (by unfold Func.isWrapper; first | (rw [if_pos (by decide +kernel)]; kernel_rfl) | (rw [if_neg (by decide +kernel)]; exact ⟨rfl, rfl⟩))
    (fun os started H enc _ F => by rw [OpenClaim.pre_eq_preRow]; exact back_lifted os started H enc F)
theorem treesBackUpto_card_holds : Rows.TreesBackUptoCardSaid :=
  Claim7.holds_tied_plain_at .later [] _ _ _ _
    treesBackUpto_holds (fun _ h => by cases h) (by kernel_rfl) (fun _ h => by cases h) treesBackUpto_row_tie rfl ⟨rfl, rfl⟩ (by kernel_rfl) rfl
    (fun f fn hf hfn => by
      obtain rfl : f = 4 := Option.some.inj ((show Tryd.prog.funcNamed "tidewater/tidewaterlaw03.TreesBack" = some 4 by kernel_rfl).symm.trans hf) |>.symm
      obtain rfl : fn = Tryd.f4 := (Option.some.inj (Tryd.func4.symm.trans hfn)).symm
      exact ⟨by kernel_rfl, fun j t ht => by
        rw [Tryd.params4] at ht
        have hm : t ∈ ([30] : List TypeId) := by simpa using Array.mem_of_getElem? ht
        have hall : (([30] : List TypeId).all fun u => !Tryd.prog.wantsStandIn u) = true := by kernel_rfl
        exact (show Tryd.prog.wantsStandIn t = false by simpa using List.all_eq_true.1 hall t hm)⟩)
    (by kernel_rfl)
end Go.Proofs.YthekdgnikkjpdaaDoor
