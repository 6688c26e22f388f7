/-
  Over this program: a text among texts (slices.Contains), the first number whose token isn't known (token.Draw, and the document's own).
-/
import Derived.Test.YtlpnbgpbahlodaaDoorPkg
import Derived.Laws.Cover1
namespace Go.Proofs.YtlpnbgpbahlodaaDoor
open Go Go.RowKit
/-- The cells of texts. -/
def strs (l : List ByteArray) : List Value := l.map .string
theorem strs_length (l : List ByteArray) : (strs l).length = l.length := List.length_map _
theorem strs_get (l : List ByteArray) (i : Nat) : (strs l)[i]? = l[i]?.map .string := List.getElem?_map
theorem strs_one (l : List ByteArray) : ∀ u ∈ strs l, u.oneCell' = true := by
  intro u hu
  obtain ⟨s, _, rfl⟩ := List.mem_map.1 hu
  rfl
theorem strs_app (a b : List ByteArray) : strs (a ++ b) = strs a ++ strs b := List.map_append
def RowS (w : World) (ao : Option Addr) (l : List ByteArray) : Prop := RowV w ao (strs l)
theorem RowS.at {w : World} {ao : Option Addr} {l : List ByteArray} (h : RowS w ao l) {i : Nat} {s : ByteArray} (hi : l[i]? = some s) : ∃ ad, ao = some ad ∧ w.cell? (ad.add i) = some (.string s) := h i _ (by rw [strs_get, hi]; rfl)
theorem RowS.below {w w' : World} {ao : Option Addr} {l : List ByteArray} (h : RowS w ao l) (hb : Below w.heap.size w w') : RowS w' ao l := RowV.below h hb
theorem RowS.take {w : World} {ao : Option Addr} {l : List ByteArray} (h : RowS w ao l) (k : Nat) : RowS w ao (l.take k) := by
  have := RowV.take h k
  unfold RowS strs at *
  rw [← List.map_take] at this
  exact this
def IdxRes (b : Bool) (e : Ending) : Prop := ∃ i : Int, e = .returned (.int .i64 i) ∧ decide (0 ≤ i) = b
def isIn (x : ByteArray) (l : List ByteArray) : Bool := l.any fun y => decide (x = y)
theorem isIn_app (x : ByteArray) (a b : List ByteArray) : isIn x (a ++ b) = (isIn x a || isIn x b) := List.any_append
theorem isIn_drop {l : List ByteArray} {j : Nat} {p x : ByteArray} (h : l[j]? = some p) : isIn x (l.drop j) = (decide (x = p) || isIn x (l.drop (j + 1))) := by
  obtain ⟨a, rfl⟩ := List.getElem?_eq_some_iff.1 h
  rw [List.drop_eq_getElem_cons a]
  rfl
theorem ne_list {x y : ByteArray} (h : x ≠ y) : ¬ x.toList = y.toList := by
  rw [ByteArray.toList_eq, ByteArray.toList_eq]
  intro e
  apply h
  apply ByteArray.ext
  exact Array.toList_inj.1 e
set_option maxHeartbeats 1000000 in
set_option maxRecDepth 100000 in
theorem index_any (ao : Option Addr) (cap : Nat) (l : List ByteArray) (x : ByteArray) (r : Bool) (hr : isIn x l = r) (w : World) (h : RowS w ao l) (hl : l.length ≤ 1000) :
    Calls Tryd.prog 24 #[.slice ao l.length cap, .string x] w fun e w' => IdxRes r e ∧ w' = w := by
  obtain ⟨n, hn⟩ : ∃ n, l.length = n := ⟨_, rfl⟩
  rw [hn] at hl ⊢
  have HR : Hid _ := hr
  have HN : Hid (l.length = n) := hn
  have H : Hid (RowS w ao l) := h
  clear hr hn h
  go_enter Tryd.func24, Tryd.ntmps24
  go_wp2_with fail
  go_loop [5, 8] (fun _ i => ∃ j : Nat, j ≤ n ∧ i = .int .i64 (j : Int) ∧ Hid (isIn x (l.drop j) = r)) (fun _ i => n - (intOf i).toNat)
  case atStart => exact ⟨0, Nat.zero_le _, rfl, HR.out⟩
  case round =>
    obtain ⟨j, hj, rfl, HJ⟩ := hrel
    by_cases hlt : j < n
    · obtain ⟨p, hp⟩ : ∃ p, l[j]? = some p := ⟨_, List.getElem?_eq_getElem (by rw [HN.out]; exact hlt)⟩
      obtain ⟨ad, rfl, k0⟩ := H.out.at hp
      have hd := isIn_drop (x := x) hp
      have hi0 : (0 : Int) ≤ (j : Int) := Int.natCast_nonneg _
      have hi1 : (j : Int) < (n : Int) := by omega
      by_cases hq : x = p
      · have HE : Hid (true = r) := by
          have := HJ.out
          rw [hd, decide_eq_true hq, Bool.true_or] at this
          exact this
        obtain rfl := HE.out
        subst hq
        clear hd hp
        go_wp2_with fail
        go_ret
        exact ⟨⟨j, rfl, decide_eq_true hi0⟩, rfl⟩
      · have HE : Hid (isIn x (l.drop (j + 1)) = r) := by
          have := HJ.out
          rw [hd, decide_eq_false hq, Bool.false_or] at this
          exact this
        have h1 := ne_list hq
        have h2 : (x.toList == p.toList) = false := beq_eq_false_iff_ne.2 h1
        clear hd hp
        go_wp2_with fail
        go_round
        case rel => exact ⟨j + 1, by omega, by go_num, HE⟩
        case measure => simp [intOf]; omega
    · have hnl : ¬ (j : Int) < (n : Int) := by omega
      have h3 := HJ.out
      rw [List.drop_of_length_le (by rw [HN.out]; omega)] at h3
      obtain rfl : false = r := h3
      go_wp2_with fail
      go_ret
      exact ⟨⟨-1, rfl, rfl⟩, rfl⟩
set_option maxRecDepth 100000 in
theorem contains_any (ao : Option Addr) (cap : Nat) (l : List ByteArray) (x : ByteArray) (r : Bool) (hr : isIn x l = r) (w : World) (h : RowS w ao l) (hl : l.length ≤ 1000) :
    Calls Tryd.prog 21 #[.slice ao l.length cap, .string x] w fun e w' => e = .returned (.bool r) ∧ w' = w := by
  have HI := index_any ao cap l x r hr w h hl
  obtain ⟨n, hn⟩ : ∃ n, l.length = n := ⟨_, rfl⟩
  rw [hn] at HI ⊢
  clear hr h hl hn
  go_enter Tryd.func21, Tryd.ntmps21
  go_wp2_with (go_at_call 24; refine HI.mono ?_; rintro e w1 ⟨⟨i, rfl, rfl⟩, rfl⟩)
  go_ret
  exact ⟨rfl, rfl⟩
def T (n : Nat) : ByteArray := ⟨(tokL 13 n).toArray⟩
/-- The first number whose token isn't known: its token, and its place behind it. -/
def drawF (ks : List ByteArray) : List Nat → Nat → Option (ByteArray × Nat)
  | [], _ => none
  | n :: r, i => if isIn (T n) ks = true then drawF ks r (i + 1) else some (T n, i + 1)
theorem draw_drop {ks : List ByteArray} {l : List Nat} {k a : Nat} (h : l[k]? = some a) (i : Nat) : drawF ks (l.drop k) i = if isIn (T a) ks = true then drawF ks (l.drop (k + 1)) (i + 1) else some (T a, i + 1) := by
  obtain ⟨hk, rfl⟩ := List.getElem?_eq_some_iff.1 h
  rw [List.drop_eq_getElem_cons hk]
  rfl
def triesN (z : Int) : Nat := (min (max z 1) 100).toNat
/-- What Draw answers. -/
def DrawRes (o : Option (ByteArray × Nat)) (m : Nat) (e : Ending) : Prop := ∃ (s : ByteArray) (c : Nat) (err : Int), e = .returned (.tuple #[.string s, .int .i64 (c : Int), .int .i64 err]) ∧ ((o = some (s, c) ∧ err = 0) ∨ (o = none ∧ s = ⟨#[]⟩ ∧ c = m ∧ err = 14))
set_option maxHeartbeats 1000000 in
set_option maxRecDepth 100000 in
theorem draw_any (ao bo : Option Addr) (c1 c2 : Nat) (l : List Nat) (ks : List ByteArray) (z : Int) (w : World) (h1 : RowU w ao l) (h2 : RowS w bo ks) (hl : l.length ≤ 1000) (hc : l.length ≤ c1) (hk : ks.length ≤ 1000) (hu : ∀ z ∈ l, U z) :
    Calls Tryd.prog 13 #[.slice ao l.length c1, .slice bo ks.length c2, .int .i64 z] w fun e w' => DrawRes (drawF ks (l.take (triesN z)) 0) (min (triesN z) l.length) e ∧ Below w.heap.size w w' := by
  obtain ⟨o, ho⟩ : ∃ o, drawF ks (l.take (triesN z)) 0 = o := ⟨_, rfl⟩
  obtain ⟨m, hm⟩ : ∃ m, min (triesN z) l.length = m := ⟨_, rfl⟩
  obtain ⟨l2, hl2⟩ : ∃ l2, l.take (triesN z) = l2 := ⟨_, rfl⟩
  have hlm : l2.length = m := by rw [← hl2, List.length_take, hm]
  have HROW : Hid (RowU w ao l2) := by rw [← hl2]; exact RowU.take h1 _
  have HU : Hid (∀ z ∈ l2, U z) := fun z hz => hu z (by rw [← hl2] at hz; exact List.mem_of_mem_take hz)
  have HROS : Hid (RowS w bo ks) := h2
  obtain ⟨n, hn⟩ : ∃ n, l.length = n := ⟨_, rfl⟩
  rw [hl2] at ho ⊢
  rw [ho, hm]
  rw [hn] at hl hc hm ⊢
  have HO : Hid (drawF ks l2 0 = o) := ho
  have HL : Hid (l2.length = m) := hlm
  have hmm : min (min (max z 1) 100) (n : Int) = (m : Int) := by unfold triesN at hm; omega
  have hm3 : ∀ W, (Builtin.min_ #[3, 3, 3] 3 #[.int .i64 (max z 1), .int .i64 100, .int .i64 (n : Int)]).run Tryd.prog W = .ok (.int .i64 (m : Int)) W := fun W => by
    rw [run_min_int3]
    congr 2
    split <;> split at * <;> omega
  have hm1 : (m : Int) ≤ (c1 : Int) := by omega
  have hm0 : (0 : Int) ≤ (m : Int) := by omega
  have hm2 : m ≤ 1000 := by omega
  have HKL : Hid (ks.length ≤ 1000) := hk
  have HC := fun (x : ByteArray) (r : Bool) (hr : isIn x ks = r) (W : World) (hW : RowS W bo ks) => contains_any bo c2 ks x r hr W hW hk
  obtain ⟨kl, hkl⟩ : ∃ kl, ks.length = kl := ⟨_, rfl⟩
  rw [hkl] at HC ⊢
  clear h1 h2 hu hn ho hlm hl2 hm hk hkl hmm
  go_enter Tryd.func13, Tryd.ntmps13
  go_wp2_with fail
  go_loopw [10, 11, 12, 22] (fun _ _ _ i wr => ∃ k : Nat, k ≤ m ∧ i = .int .i64 (k : Int) ∧ Below w.heap.size w wr ∧ Hid (drawF ks (l2.drop k) k = o)) (fun _ _ _ i _ => m - (intOf i).toNat)
  case atStart => exact ⟨0, Nat.zero_le _, rfl, Below.refl _ _, HO.out⟩
  case round =>
    obtain ⟨k, hk, rfl, hb, HK⟩ := hrel
    have HB : Hid (Below w.heap.size w wr) := hb
    by_cases hlt : k < m
    · obtain ⟨a, ha⟩ : ∃ a, l2[k]? = some a := ⟨_, List.getElem?_eq_getElem (by rw [HL.out]; exact hlt)⟩
      have hua := HU.out a (List.mem_of_getElem? ha)
      obtain ⟨ad, rfl, k1⟩ := (HROW.out.below hb).at ha
      have hst := draw_drop (ks := ks) ha k
      have HT := fun W => of_any a hua W
      have hlt' : (k : Int) < (m : Int) := by omega
      have hk0 : (0 : Int) ≤ (k : Int) := by omega
      obtain ⟨t, ht⟩ : ∃ t, T a = t := ⟨_, rfl⟩
      have htt : (⟨(tokL 13 a).toArray⟩ : ByteArray) = t := ht
      rw [htt] at HT
      rw [ht] at hst
      cases hin : isIn t ks with
      | true =>
        rw [hin, if_pos rfl] at hst
        have HST : Hid (drawF ks (l2.drop (k + 1)) (k + 1) = o) := hst.symm.trans HK.out
        have HCC := fun W (hW : RowS W bo ks) => HC t true hin W hW
        clear ha hst hb hua ht htt hin
        go_wp2_with (first
          | (go_at_call 11; refine (HT _).mono ?_; rintro e w1 ⟨rfl, hb1⟩; have HB1 : Hid (Below w.heap.size w w1) := HB.out.trans (hb1.mono HB.out.size))
          | (go_at_call 21; refine (HCC _ (HROS.out.below HB1.out)).mono ?_; rintro e w2 ⟨rfl, rfl⟩))
        go_roundw
        case rel => exact ⟨k + 1, by omega, by go_num, HB1.out, HST⟩
        case measure => simp [intOf]; omega
      | false =>
        rw [hin, if_neg (by decide)] at hst
        have HST : Hid (some (t, k + 1) = o) := hst.symm.trans HK.out
        have HCC := fun W (hW : RowS W bo ks) => HC t false hin W hW
        clear ha hst hb hua ht htt hin
        go_wp2_with (first
          | (go_at_call 11; refine (HT _).mono ?_; rintro e w1 ⟨rfl, hb1⟩; have HB1 : Hid (Below w.heap.size w w1) := HB.out.trans (hb1.mono HB.out.size))
          | (go_at_call 21; refine (HCC _ (HROS.out.below HB1.out)).mono ?_; rintro e w2 ⟨rfl, rfl⟩))
        go_ret3
        exact ⟨⟨t, k + 1, 0, by simp, Or.inl ⟨HST.out.symm, rfl⟩⟩, HB1.out⟩
    · obtain rfl : k = m := by omega
      have hlt' : ¬ (k : Int) < (k : Int) := by omega
      have h3 := HK.out
      rw [List.drop_of_length_le (by rw [HL.out]; exact Nat.le_refl _)] at h3
      have HE : Hid (none = o) := h3
      clear hlt h3 hb
      go_wp2_with fail
      go_ret3
      exact ⟨⟨⟨#[]⟩, k, 14, rfl, Or.inr ⟨HE.out.symm, rfl, rfl, rfl⟩⟩, HB.out⟩
end Go.Proofs.YtlpnbgpbahlodaaDoor
