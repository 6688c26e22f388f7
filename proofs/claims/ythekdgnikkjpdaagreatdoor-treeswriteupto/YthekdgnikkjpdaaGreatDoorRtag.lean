/-
  The contract of tags.readTag over this program: for every string of at most 100000 bytes.
-/
import Derived.Test.YthekdgnikkjpdaaGreatDoorRbeg
namespace Go.Proofs.YthekdgnikkjpdaaGreatDoor
open Go.RowKit
theorem toks_two (w : World) (B : Nat) (k : Int) (n x : ByteArray) (v : Value) (t : Tok) (hB : B ≤ w.heap.size) (h1 : t.kind = k) (h2 : (⟨t.nm.toArray⟩ : ByteArray) = n) (h3 : (⟨t.text.toArray⟩ : ByteArray) = x) (h4 : AttrsAt B v t.attrs w) :
    ToksAt 73 B (.slice (some ⟨w.heap.size, 0, none⟩) 2 2) [t, ⟨2, t.nm, [], []⟩] (w.alloc (.cells #[.int .i64 k, .string n, v, .string x, .int .i64 2, .string n, .slice none 0 0, .string ⟨#[]⟩] 73)) := by
  subst h1 h2 h3
  exact ⟨_, owns_new w B 73 4 2 _ hB (by decide) rfl, v, _, rfl, h4.below ((Below.refl _ _).alloc (Nat.le_refl _) _), _, [], rfl, attrs_nil _ _, rfl⟩
theorem cutPre_at (s : ByteArray) (r : List UInt8) (b : Bool) (h1 : Lib.trimPrefix s.data.toList [47] = r) (h2 : Lib.hasPrefix s.data.toList [47] = b) (w : World) :
    Calls Tryz.prog 64 #[.string s, .string ⟨#[47]⟩] w fun e w' => e = .returned (.tuple #[.string ⟨r.toArray⟩, .bool b]) ∧ w' = w := by
  have k := Tryz.strings_CutPrefix s ⟨#[47]⟩ w
  rw [show (⟨#[47]⟩ : ByteArray).data.toList = [47] from rfl, h1, h2] at k
  exact k
theorem cutSuf_at (s : ByteArray) (r : List UInt8) (b : Bool) (h1 : Lib.trimSuffix s.data.toList [47] = r) (h2 : Lib.hasSuffix s.data.toList [47] = b) (w : World) (hs : s.size ≤ 2000000) :
    Calls Tryz.prog 66 #[.string s, .string ⟨#[47]⟩] w fun e w' => e = .returned (.tuple #[.string ⟨r.toArray⟩, .bool b]) ∧ w' = w := by
  have k := Tryz.strings_CutSuffix s ⟨#[47]⟩ w (by omega)
  rw [show (⟨#[47]⟩ : ByteArray).data.toList = [47] from rfl, h1, h2] at k
  exact k
theorem trimPre_len (l p : List UInt8) : (Lib.trimPrefix l p).length ≤ l.length := by
  unfold Lib.trimPrefix
  split
  · rw [List.length_drop]; omega
  · exact Nat.le_refl _
theorem trimSuf_len (l p : List UInt8) : (Lib.trimSuffix l p).length ≤ l.length := by
  unfold Lib.trimSuffix
  split
  · rw [List.length_take]; omega
  · exact Nat.le_refl _
theorem readBegin_at (s : ByteArray) (k : Int) (nm tx : List UInt8) (at_ : List (List UInt8 × List UInt8)) (c : Int) (h : beginN s.data.toList = (⟨k, nm, at_, tx⟩, c)) (w : World) (hT : Tabs w) (hs : s.size ≤ 2000000) :
    Calls Tryz.prog 67 #[.string s] w fun e w' => (∃ ao n cap, e = .returned (.tuple #[.agg #[.int .i64 k, .string ⟨nm.toArray⟩, .slice ao n cap, .string ⟨tx.toArray⟩], .int .i64 c]) ∧ AttrsAt w.heap.size (.slice ao n cap) at_ w') ∧ Below w.heap.size w w' := by
  have q := readBegin_any s w hT hs
  rw [h] at q
  exact q
set_option maxHeartbeats 2000000 in
theorem readTag_any (s : ByteArray) (w : World) (hT : Tabs w) (hs : s.size ≤ 2000000) :
    Calls Tryz.prog 54 #[.string s] w fun e w' => TokRes w.heap.size (tagN s.data.toList).1 (tagN s.data.toList).2 e w' ∧ Below w.heap.size w w' := by
  have hT3 := hT.size
  cases hr : right s.data.toList with
  | false =>
    have H1 := right_at s 2 (by simp [rightN, hr]) w hT (by omega)
    rw [show tagN s.data.toList = ([], 2) by simp [tagN, hr]]
    clear hr
    go_enter Tryz.func54, Tryz.ntmps54
    go_wp2_with (go_at_call 23; refine H1.mono ?_)
    rintro e w1 ⟨rfl, hb1⟩
    go_wp2
    go_ret2
    exact ⟨tokRes_nil _ _ _, hb1⟩
  | true =>
    have H1 := right_at s 0 (by simp [rightN, hr]) w hT (by omega)
    cases hp : Lib.hasPrefix s.data.toList [47] with
    | true =>
      have H2 := fun W => cutPre_at s _ true rfl hp W
      have H3 := fun W => readEnd_any ⟨(Lib.trimPrefix s.data.toList [47]).toArray⟩ W (by rw [size_mk]; have := trimPre_len s.data.toList [47]; rw [← size_list] at this; omega)
      rw [show tagN s.data.toList = endN (Lib.trimPrefix s.data.toList [47]) by simp [tagN, hr, hp]]
      clear hr hp
      go_enter Tryz.func54, Tryz.ntmps54
      go_wp2_with (first | (go_at_call 23; refine H1.mono ?_; rintro e w1 ⟨rfl, hb1⟩) | (go_at_call 64; refine (H2 _).mono ?_; rintro e w2 ⟨rfl, hw⟩; rw [hw]) | (go_at_call 65; refine (H3 _).mono ?_; rintro e w3 ⟨⟨ao, n, cap, rfl, htk⟩, hb3⟩))
      go_ret2
      exact ⟨⟨ao, n, cap, rfl, htk.base hb1.size⟩, hb1.trans (hb3.mono hb1.size)⟩
    | false =>
      have H2 := fun W => cutPre_at s _ false rfl hp W
      cases hsf : Lib.hasSuffix s.data.toList [47] with
      | true =>
        have H3 := fun W => cutSuf_at s _ true rfl hsf W hs
        obtain ⟨⟨⟨k, nm, at_, tx⟩, c⟩, hbg⟩ : ∃ p, beginN (Lib.trimSuffix s.data.toList [47]) = p := ⟨_, rfl⟩
        have H4 := fun W hW => readBegin_at ⟨(Lib.trimSuffix s.data.toList [47]).toArray⟩ k nm tx at_ c hbg W hW (by rw [size_mk]; have := trimSuf_len s.data.toList [47]; rw [← size_list] at this; omega)
        rw [show tagN s.data.toList = bothN (Lib.trimSuffix s.data.toList [47]) by simp [tagN, hr, hp, hsf]]
        by_cases hc : c = 0
        · subst hc
          rw [show bothN (Lib.trimSuffix s.data.toList [47]) = ([⟨k, nm, at_, tx⟩, ⟨2, nm, [], []⟩], 0) by unfold bothN; rw [hbg]; rfl]
          clear hr hp hsf hbg
          go_enter Tryz.func54, Tryz.ntmps54
          go_wp2_with (first | (go_at_call 23; refine H1.mono ?_; rintro e w1 ⟨rfl, hb1⟩) | (go_at_call 64; refine (H2 _).mono ?_; rintro e w2 ⟨rfl, hw⟩; rw [hw]) | (go_at_call 66; refine (H3 _).mono ?_; rintro e w3 ⟨rfl, hw⟩; rw [hw]) | (go_at_call 67; refine (H4 _ (hT.below hT3 hb1)).mono ?_; rintro e w4 ⟨⟨ao, n, cap, rfl, hat⟩, hb4⟩))
          go_ret2
          have hB := hb1.trans (hb4.mono hb1.size)
          have hB2 := hB.alloc hB.size (.cells #[.int .i64 k, .string ⟨nm.toArray⟩, .slice ao n cap, .string ⟨tx.toArray⟩] 73)
          have hat2 := AttrsAt.below (owns_base hat hb1.size) ((Below.refl w4.heap.size w4).alloc (Nat.le_refl _) (.cells #[.int .i64 k, .string ⟨nm.toArray⟩, .slice ao n cap, .string ⟨tx.toArray⟩] 73))
          have htk := toks_two _ w.heap.size k _ _ _ ⟨k, nm, at_, tx⟩ hB2.size rfl rfl rfl hat2
          rw [show (w4.alloc (.cells #[.int .i64 k, .string ⟨nm.toArray⟩, .slice ao n cap, .string ⟨tx.toArray⟩] 73)).heap.size = w4.heap.size + 1 by simp] at htk
          exact ⟨⟨_, _, _, rfl, htk⟩, hB2.alloc hB2.size _⟩
        · have hc' : (c == 0) = false := by simpa using hc
          rw [show bothN (Lib.trimSuffix s.data.toList [47]) = ([], c) by unfold bothN; rw [hbg]; simp [hc]]
          clear hr hp hsf hbg hc
          go_enter Tryz.func54, Tryz.ntmps54
          go_wp2_with (first | (go_at_call 23; refine H1.mono ?_; rintro e w1 ⟨rfl, hb1⟩) | (go_at_call 64; refine (H2 _).mono ?_; rintro e w2 ⟨rfl, hw⟩; rw [hw]) | (go_at_call 66; refine (H3 _).mono ?_; rintro e w3 ⟨rfl, hw⟩; rw [hw]) | (go_at_call 67; refine (H4 _ (hT.below hT3 hb1)).mono ?_; rintro e w4 ⟨⟨ao, n, cap, rfl, hat⟩, hb4⟩))
          go_ret2
          have hB := hb1.trans (hb4.mono hb1.size)
          exact ⟨tokRes_nil _ _ _, hB.alloc hB.size _⟩
      | false =>
        have H3 := fun W => cutSuf_at s _ false rfl hsf W hs
        obtain ⟨⟨⟨k, nm, at_, tx⟩, c⟩, hbg⟩ : ∃ p, beginN (Lib.trimSuffix s.data.toList [47]) = p := ⟨_, rfl⟩
        have H4 := fun W hW => readBegin_at ⟨(Lib.trimSuffix s.data.toList [47]).toArray⟩ k nm tx at_ c hbg W hW (by rw [size_mk]; have := trimSuf_len s.data.toList [47]; rw [← size_list] at this; omega)
        rw [show tagN s.data.toList = bareN (Lib.trimSuffix s.data.toList [47]) by simp [tagN, hr, hp, hsf]]
        by_cases hc : c = 0
        · subst hc
          rw [show bareN (Lib.trimSuffix s.data.toList [47]) = ([⟨k, nm, at_, tx⟩], 0) by unfold bareN; rw [hbg]; rfl]
          clear hr hp hsf hbg
          go_enter Tryz.func54, Tryz.ntmps54
          go_wp2_with (first | (go_at_call 23; refine H1.mono ?_; rintro e w1 ⟨rfl, hb1⟩) | (go_at_call 64; refine (H2 _).mono ?_; rintro e w2 ⟨rfl, hw⟩; rw [hw]) | (go_at_call 66; refine (H3 _).mono ?_; rintro e w3 ⟨rfl, hw⟩; rw [hw]) | (go_at_call 67; refine (H4 _ (hT.below hT3 hb1)).mono ?_; rintro e w4 ⟨⟨ao, n, cap, rfl, hat⟩, hb4⟩))
          go_ret2
          have hB := hb1.trans (hb4.mono hb1.size)
          have hB2 := hB.alloc hB.size (.cells #[.int .i64 k, .string ⟨nm.toArray⟩, .slice ao n cap, .string ⟨tx.toArray⟩] 73)
          have hat2 := AttrsAt.below (owns_base hat hb1.size) ((Below.refl w4.heap.size w4).alloc (Nat.le_refl _) (.cells #[.int .i64 k, .string ⟨nm.toArray⟩, .slice ao n cap, .string ⟨tx.toArray⟩] 73))
          have htk := toks_one _ w.heap.size k _ _ _ ⟨k, nm, at_, tx⟩ hB2.size rfl rfl rfl hat2
          rw [show (w4.alloc (.cells #[.int .i64 k, .string ⟨nm.toArray⟩, .slice ao n cap, .string ⟨tx.toArray⟩] 73)).heap.size = w4.heap.size + 1 by simp] at htk
          exact ⟨⟨_, _, _, rfl, htk⟩, hB2.alloc hB2.size _⟩
        · have hc' : (c == 0) = false := by simpa using hc
          rw [show bareN (Lib.trimSuffix s.data.toList [47]) = ([], c) by unfold bareN; rw [hbg]; simp [hc]]
          clear hr hp hsf hbg hc
          go_enter Tryz.func54, Tryz.ntmps54
          go_wp2_with (first | (go_at_call 23; refine H1.mono ?_; rintro e w1 ⟨rfl, hb1⟩) | (go_at_call 64; refine (H2 _).mono ?_; rintro e w2 ⟨rfl, hw⟩; rw [hw]) | (go_at_call 66; refine (H3 _).mono ?_; rintro e w3 ⟨rfl, hw⟩; rw [hw]) | (go_at_call 67; refine (H4 _ (hT.below hT3 hb1)).mono ?_; rintro e w4 ⟨⟨ao, n, cap, rfl, hat⟩, hb4⟩))
          go_ret2
          have hB := hb1.trans (hb4.mono hb1.size)
          exact ⟨tokRes_nil _ _ _, hB.alloc hB.size _⟩
end Go.Proofs.YthekdgnikkjpdaaGreatDoor
