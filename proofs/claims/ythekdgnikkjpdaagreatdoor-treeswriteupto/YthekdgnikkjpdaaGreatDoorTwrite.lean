/-
  For every two elements and every name of a bulk of at most 1048576 the statement TreesWrite returns true and leaves its arguments as they were: what is written, what may be written, whether two are the same and what an attribute holds are the document's own.
  Conditions: the bulk; the variables unicode/utf8.first, unicode/utf8.acceptRanges and tidewater/signs.standIns hold what the program's text lays in them (the card ties them to that text).
-/
import Derived.Test.YthekdgnikkjpdaaGreatDoorRows
import Derived.Test.YthekdgnikkjpdaaGreatDoorWalkk
import Derived.ProofKit
import Derived.OpenShut
import Derived.Stop.Joined
import Derived.PinnedBridge
import Derived.Lay
import Derived.Lib.LaidU8T
import Derived.SevenTiedAt
import Derived.LaidMore
import Derived.Test.YthekdgnikkjpdaaGreatDoorWsg
import Derived.Test.YthekdgnikkjpdaaGreatDoorOpne
import Derived.Test.YthekdgnikkjpdaaGreatDoorCutc
import Derived.Test.YthekdgnikkjpdaaGreatDoorTie
import Derived.Test.YthekdgnikkjpdaaGreatDoorCards
import Derived.Deep.DeepHandedRow
import Derived.Lib.LaidTab
import Derived.ChangeMaps5
namespace Go.Proofs.YthekdgnikkjpdaaGreatDoor
open Go Go.ChangeShapes Go.WideShapes Go.ChangeAt Go.RowKit
open Go.ChangeMaps (open_string shut_string)
theorem own : ownKnob Tryz.prog.godebug = none := by kernel_rfl
def laid3 : List (String × DataW Unit) := [("unicode/utf8.acceptRanges", Rows.laid_unicode_utf8_acceptRanges), ("tidewater/signs.standIns", Rows.laid_tidewater_signs_standIns), ("unicode/utf8.first", Rows.laid_unicode_utf8_first)]
def ren : Go.Shelf.Ren := ⟨fun n => n, fun | 5 => 5 | 119 => 109 | 138 => 111 | 139 => 112 | n => n, fun | 3 => 1 | 4 => 2 | n => n⟩
theorem u8types : U8Types Tryz.prog ren := ⟨by kernel_rfl, by kernel_rfl, by kernel_rfl, by kernel_rfl⟩
theorem u8extra : U8Extra Tryz.prog ren := ⟨by kernel_rfl, by kernel_rfl, by kernel_rfl, by kernel_rfl, by kernel_rfl, by kernel_rfl, by kernel_rfl⟩
theorem accept_eq : Rows.laid_unicode_utf8_acceptRanges = Lib.acceptData := by kernel_rfl
theorem first_eq : Rows.laid_unicode_utf8_first = Lib.firstData := Pinned.utf8First_eq
theorem gStand : Tryz.prog.globalNamed "tidewater/signs.standIns" = some 0 := by kernel_rfl
theorem tStand : (Tryz.prog.globals[0]?).map (·.type) = some 106 := by kernel_rfl
theorem c61 : Tryz.prog.cellsOf 106 = 10 := by kernel_rfl
theorem c53 : Tryz.prog.cellsOf 105 = 2 := by kernel_rfl
theorem c21 : Tryz.prog.cellsOf 21 = 1 := by kernel_rfl
theorem c9 : Tryz.prog.cellsOf 9 = 1 := by kernel_rfl
set_option maxRecDepth 100000 in
theorem pair_is {H : Type} {enc : TypeId × Value → H} {w : World} {base : Nat} {sp : Nat → Bool} {held : Bool} {fuel : Nat} {cs : List Value} {n : Int} {bs : List UInt8} {q : List MemPlace}
    (h : DataW.trod enc Tryz.prog w base sp held fuel 105 cs = some (.agg [.lit (.int .i32 n), .lit (.string bs)], q)) : cs = [.int .i32 n, .string ⟨bs.toArray⟩] := by
  obtain ⟨y0, y1, m, hx, hl, h0, h1⟩ := trod_struct2 Tryz.underlying105 h
  rw [c53] at hl
  obtain ⟨k, e0, e0', _⟩ := DataW.trod_int Tryz.underlying21 h0
  obtain ⟨s, e1, e1', _⟩ := DataW.trod_string Tryz.underlying9 h1
  subst e0'
  subst e1'
  simp only [Prod.mk.injEq, DataW.agg.injEq, List.cons.injEq, DataW.lit.injEq, Lit.int.injEq, Lit.string.injEq, true_and, and_true] at hx
  obtain ⟨⟨rfl, rfl⟩, _⟩ := hx
  match cs, hl with
  | [a, b], _ =>
    simp [c21, c9] at e0 e1
    rw [e0, e1]
set_option maxRecDepth 100000 in
theorem tabs_of_laid {W : World} (h : laidMetH Tryz.prog laid3 W) : Tabs W := by
  rw [MakeChecks.laidMetH_plain _ _ _ (by kernel_rfl)] at h
  have r1 := Lib.laidMet.reads h (n := "unicode/utf8.acceptRanges") (d := Rows.laid_unicode_utf8_acceptRanges) (.head _)
  have r2 := Lib.laidMet.reads h (n := "tidewater/signs.standIns") (d := Rows.laid_tidewater_signs_standIns) (.tail _ (.head _))
  have r3 := Lib.laidMet.reads h (n := "unicode/utf8.first") (d := Rows.laid_unicode_utf8_first) (.tail _ (.tail _ (.head _)))
  rw [accept_eq] at r1
  rw [first_eq] at r3
  refine ⟨utf8Tabs_of_readsT u8types u8extra r3 r1, ?_⟩
  obtain ⟨g, t, cs, fuel, p, hg, hty, hvar, hd⟩ := r2
  obtain rfl := Option.some.inj (gStand.symm.trans hg)
  obtain rfl := Option.some.inj (tStand.symm.trans hty)
  obtain ⟨xs, m, rfl, hx, hlen, hn, hel⟩ := DataW.trod_array Tryz.underlying106 hd
  rw [c61] at hlen
  simp only [c53] at hel
  have hcs : cs = standCells := by
    simp only [Prod.mk.injEq, Rows.laid_tidewater_signs_standIns, DataW.agg.injEq] at hx
    match xs, hn, hx with
    | [x0, x1, x2, x3, x4], _, hx =>
      simp only [List.map_cons, List.map_nil, List.cons.injEq, and_true] at hx
      obtain ⟨⟨k0, k1, k2, k3, k4⟩, _⟩ := hx
      have j0 := pair_is ((hel 0 (by decide)).trans (show _ = some (_, x0.2) by rw [k0]; rfl))
      have j1 := pair_is ((hel 1 (by decide)).trans (show _ = some (_, x1.2) by rw [k1]; rfl))
      have j2 := pair_is ((hel 2 (by decide)).trans (show _ = some (_, x2.2) by rw [k2]; rfl))
      have j3 := pair_is ((hel 3 (by decide)).trans (show _ = some (_, x3.2) by rw [k3]; rfl))
      have j4 := pair_is ((hel 4 (by decide)).trans (show _ = some (_, x4.2) by rw [k4]; rfl))
      obtain ⟨l⟩ := cs
      simp only at hlen j0 j1 j2 j3 j4
      match l, hlen with
      | [a0, a1, a2, a3, a4, a5, a6, a7, a8, a9], _ =>
        simp at j0 j1 j2 j3 j4
        rw [j0.1, j0.2, j1.1, j1.2, j2.1, j2.2, j3.1, j3.2, j4.1, j4.2]
        rfl
  subst hcs
  simp only [World.var?, hg, Option.bind_some] at hvar
  split at hvar
  · rename_i cs t fr hh
    cases hvar
    exact ⟨t, fr, hh⟩
  · cases hvar
set_option maxRecDepth 100000 in
theorem twrite_contract (H : Type) (enc : TypeId × Value → H) (W : World) (base : Nat) (args : Array Value) (ds gs : List (DataW H)) (before : List MemPlace)
    (hval : ∀ (j : Nat) t v, Tryz.f3.params[j]? = some t → args[j]? = some v → Value.okWide Tryz.prog W .any base t v)
    (hW : DataW.Whole enc Tryz.prog Tryz.f3.params.toList Rows.treesWriteSpec.vars false W args.toList ds gs before) (hL : laidMetH Tryz.prog laid3 W) (hk : Rows.uptoSmall H (ds ++ gs) = true) :
    Calls Tryz.prog 3 args W fun e W' => ∃ v, e = .returned v ∧ Rows.treesWriteSpec.post enc Tryz.prog Tryz.f3 false true false false W args v W' := by
  have hW' := hW
  have hlt := hW.lt
  obtain ⟨p, q, hA0, hV, rfl, _, _⟩ := hW
  have hA : DataW.TrodAll enc Tryz.prog W 0 (fun _ => true) true Tryz.f3.params.toList args.toList ds p := hA0
  rw [Tryz.params3] at hA hval
  obtain ⟨v0, v1, v2, d0, d1, d2, p0, p1, p2, rfl, rfl, rfl, h0, h1, h2⟩ := trodAll_three hA
  obtain ⟨rfl, rfl⟩ := trodVars_none hV
  simp only [List.append_nil] at hW' hlt hk
  have hbk : Rows.uptoBulkAll [d0, d1, d2] ≤ 1048576 := of_decide_eq_true hk
  simp only [Rows.uptoBulkAll] at hbk
  obtain ⟨cs0, rfl, hcs0⟩ := okWide_struct Tryz.underlying25 (hval 0 25 v0 rfl rfl)
  have h0' := h0
  obtain ⟨fuel0, g0⟩ := h0'
  obtain ⟨el, a, b, c, d, hv, hE0, hsm0⟩ := open_elem fuel0 g0
  obtain ⟨a', b', c', d', hv', hcap0⟩ := cap_elem 6 fuel0 g0
  obtain ⟨rfl, rfl, rfl, rfl⟩ : a = a' ∧ b = b' ∧ c = c' ∧ d = d' := by
    have := hv.symm.trans hv'
    simpa using this
  obtain rfl : cs0 = #[a, b, c, d] := by
    have h : cs0.toList = [a, b, c, d] := hv
    apply Array.ext'
    rw [h]
  clear hv hv'
  obtain ⟨ao0, cap0, ko0, kap0, rfl, rfl⟩ := hE0.shape
  obtain ⟨rfl, _, rfl, _⟩ := hE0.parts
  obtain ⟨m0, hEm0⟩ := hE0
  obtain ⟨cs1, rfl, hcs1⟩ := okWide_struct Tryz.underlying25 (hval 1 25 v1 rfl rfl)
  have h1' := h1
  obtain ⟨fuel1, g1⟩ := h1'
  obtain ⟨fl, a, b, c, d, hv, hE1, hsm1⟩ := open_elem fuel1 g1
  obtain ⟨a', b', c', d', hv', hcap1⟩ := cap_elem 6 fuel1 g1
  obtain ⟨rfl, rfl, rfl, rfl⟩ : a = a' ∧ b = b' ∧ c = c' ∧ d = d' := by
    have := hv.symm.trans hv'
    simpa using this
  obtain rfl : cs1 = #[a, b, c, d] := by
    have h : cs1.toList = [a, b, c, d] := hv
    apply Array.ext'
    rw [h]
  clear hv hv'
  obtain ⟨ao1, cap1, ko1, kap1, rfl, rfl⟩ := hE1.shape
  obtain ⟨rfl, _, rfl, _⟩ := hE1.parts
  obtain ⟨m1, hEm1⟩ := hE1
  obtain ⟨s2, rfl, rfl, rfl, hx2⟩ := open_string Tryz.underlying9 (hval 2 9 v2 rfl rfl) h2
  obtain ⟨nm, rfl⟩ : ∃ nm : List UInt8, s2 = ⟨nm.toArray⟩ := ⟨s2.data.toList, by cases s2; simp⟩
  have hT := tabs_of_laid hL
  refine (write_walk m0 m1 el fl nm ao0 ko0 ao1 ko1 _ cap0 _ kap0 _ cap1 _ kap1 W hT (hsm0 (by simp only; omega)) (hsm1 (by simp only; omega)) hEm0 hcap0 hEm1 hcap1).mono fun e W' ⟨he, hb⟩ => ?_
  subst he
  exact ⟨_, rfl, _, _, _, [], _, [], hW', trodAll_mk1 (shut_bool Tryz.underlying4 _), trodAll_mk3 (Below.trod (by kernel_rfl) (by kernel_rfl) (of_decide_eq_true (by kernel_rfl)) h0 hb (fun x hx => hlt x (by simp [hx]))) (Below.trod (by kernel_rfl) (by kernel_rfl) (of_decide_eq_true (by kernel_rfl)) h1 hb (fun x hx => hlt x (by simp [hx]))) (shut_string Tryz.underlying9 hx2), rfl, hb.frame _, fun h => by cases h⟩
theorem twrite_reads (os : Os) {H : Type} (enc : TypeId × Value → H) : ∃ places, DataW.whole enc Tryz.prog ((World.laidAll Tryz.prog os laid3).forCall (fun _ _ => 0) ⟨#[], #[.agg #[.string ⟨#[]⟩, .slice none 0 0, .string ⟨#[]⟩, .slice none 0 0], .agg #[.string ⟨#[]⟩, .slice none 0 0, .string ⟨#[]⟩, .slice none 0 0], .string ⟨#[]⟩], []⟩).memory Tryz.f3.params.toList Rows.treesWriteSpec.vars false #[Value.agg #[.string ⟨#[]⟩, .slice none 0 0, .string ⟨#[]⟩, .slice none 0 0], .agg #[.string ⟨#[]⟩, .slice none 0 0, .string ⟨#[]⟩, .slice none 0 0], .string ⟨#[]⟩].toList 8 = some ([.agg [.lit (.string []), .nil, .lit (.string []), .nil], .agg [.lit (.string []), .nil, .lit (.string []), .nil], .lit (.string [])], [], places) :=
  ⟨[], by kernel_rfl⟩
set_option maxRecDepth 100000 in
theorem twrite_lifted (os : Os) (started : os.Started) (H : Type) (enc : TypeId × Value → H) (F : Stop.Interp) :
    ReturnsInHanded {} Tryz.checked os 3 .any ((Rows.OpenSpec.upto Rows.treesWriteSpec).preRow enc Tryz.prog Tryz.f3 Rows.treesWriteUptoRow.domain false Rows.treesWriteUptoRow.laid) (((Rows.OpenSpec.upto Rows.treesWriteSpec).at F).post enc Tryz.prog Tryz.f3 false true false false) := by
  obtain ⟨places, hx⟩ := twrite_reads os enc
  refine returnsInHanded_of_row (C := Tryz.checked) (s := Rows.OpenSpec.upto Rows.treesWriteSpec) own started (by kernel_rfl) Tryz.func3
    ⟨World.laidAll Tryz.prog os laid3, fun _ _ => 0, ⟨#[], #[.agg #[.string ⟨#[]⟩, .slice none 0 0, .string ⟨#[]⟩, .slice none 0 0], .agg #[.string ⟨#[]⟩, .slice none 0 0, .string ⟨#[]⟩, .slice none 0 0], .string ⟨#[]⟩], []⟩, World.laidAll_os _ _ _, World.shaped_of_ZipB (by kernel_rfl) (by kernel_rfl), rfl, (Input.okWide_of_okWideB (by kernel_rfl)).2,
      OpenSpec.preRow_of_cond 8 hx (by kernel_rfl) (fun k hk => by cases hk; kernel_rfl) (by kernel_rfl) (by show laidMetH Tryz.prog laid3 _; rw [MakeChecks.laidMetH_plain _ _ _ (by kernel_rfl)]; exact laidMet_laidAll _ (by kernel_rfl) (by kernel_rfl)),
      by
        simp only [Assume.holds]
        exact ⟨by simp, by simp, fun _ => Modest.zero, by simp, by simp⟩⟩ ?_
  intro W base args ds gs before hval hW _ hcond _ hL _ _
  exact twrite_contract H enc W base args ds gs before hval hW hL (hcond _ rfl)
theorem treesWriteUpto_holds : Rows.TreesWriteUptoSaid :=
  OpenClaim.holds_of_cond 3 Tryz.f3 rfl rfl rfl rfl rfl rfl rfl ⟨rfl, rfl, rfl, rfl, rfl⟩ rfl rfl rfl rfl rfl (by kernel_rfl) Tryz.func3 (by kernel_rfl)
    (of_decide_eq_true (by kernel_rfl)) (by unfold Func.isWrapper; first | (rw [if_pos (by decide +kernel)]; kernel_rfl) | (rw [if_neg (by decide +kernel)]; exact ⟨rfl, rfl⟩))
    (fun os started H enc _ F => by rw [OpenClaim.pre_eq_preRow]; exact twrite_lifted os started H enc F)
theorem treesWriteUpto_card_holds : Rows.TreesWriteUptoCardSaid :=
  Claim7.holds_tied_plain_at .later [] _ _ _ _
    treesWriteUpto_holds (fun _ h => by cases h) (by kernel_rfl) (fun _ h => by cases h) treesWriteUpto_row_tie rfl ⟨rfl, rfl⟩ (by kernel_rfl) rfl
    (fun f fn hf hfn => by
      obtain rfl : f = 3 := Option.some.inj ((show Tryz.prog.funcNamed "tidewater/tidewaterlaw03.TreesWrite" = some 3 by kernel_rfl).symm.trans hf) |>.symm
      obtain rfl : fn = Tryz.f3 := (Option.some.inj (Tryz.func3.symm.trans hfn)).symm
      exact ⟨by kernel_rfl, fun j t ht => by
        rw [Tryz.params3] at ht
        have hm : t ∈ ([25, 25, 9] : List TypeId) := by simpa using Array.mem_of_getElem? ht
        have hall : (([25, 25, 9] : List TypeId).all fun u => !Tryz.prog.wantsStandIn u) = true := by kernel_rfl
        exact (show Tryz.prog.wantsStandIn t = false by simpa using List.all_eq_true.1 hall t hm)⟩)
    (by kernel_rfl)
end Go.Proofs.YthekdgnikkjpdaaGreatDoor
