/-
  The contracts of tags.readText and tags.readEnd over this program: for every string of at most 100000 bytes.
-/
import Derived.Test.YthekdgnikkjpdaaDoorMem
namespace Go.Proofs.YthekdgnikkjpdaaDoor
open Go.RowKit
theorem unescN_un (l : List UInt8) : unescN l = (⟨(un l).1.toArray⟩, (un l).2) := by
  unfold unescN un
  split
  · cases unesc l <;> rfl
  · rfl
theorem unescape_un (s : ByteArray) (r : List UInt8) (c : Int) (h : un s.data.toList = (r, c)) (w : World) (hT : Tabs w) (hs : s.size ≤ 2000000) :
    Calls Tryd.prog 77 #[.string s] w fun e w' => e = .returned (.tuple #[.string ⟨r.toArray⟩, .int .i64 c]) ∧ Below w.heap.size w w' :=
  unescape_at s _ _ (by rw [unescN_un, h]) w hT hs
/-- What a call that answers tokens answers. -/
def TokRes (B : Nat) (l : List Tok) (c : Int) (e : Ending) (w : World) : Prop := ∃ ao n cap, e = .returned (.tuple #[.slice ao n cap, .int .i64 c]) ∧ ToksAt 39 B (.slice ao n cap) l w
theorem tokRes_nil (B : Nat) (c : Int) (w : World) : TokRes B [] c (.returned (.tuple #[.slice none 0 0, .int .i64 c])) w := ⟨none, 0, 0, rfl, ToksAt.nil _ _ _⟩
theorem attrs_nil (B : Nat) (w : World) : AttrsAt B (.slice none 0 0) [] w := World.ownsRow_nil _ _ _ _
theorem toks_one (w : World) (B : Nat) (k : Int) (n x : ByteArray) (v : Value) (t : Tok) (hB : B ≤ w.heap.size) (h1 : t.kind = k) (h2 : (⟨t.nm.toArray⟩ : ByteArray) = n) (h3 : (⟨t.text.toArray⟩ : ByteArray) = x) (h4 : AttrsAt B v t.attrs w) :
    ToksAt 39 B (.slice (some ⟨w.heap.size, 0, none⟩) 1 1) [t] (w.alloc (.cells #[.int .i64 k, .string n, v, .string x] 39)) := by
  subst h1 h2 h3
  exact ⟨_, owns_new w B 39 4 1 _ hB (by decide) rfl, v, [], rfl, h4.below ((Below.refl _ _).alloc (Nat.le_refl _) _), rfl⟩
set_option maxHeartbeats 1000000 in
theorem readText_any (s : ByteArray) (w : World) (hT : Tabs w) (hs : s.size ≤ 2000000) :
    Calls Tryd.prog 66 #[.string s] w fun e w' => TokRes w.heap.size (textN s.data.toList).1 (textN s.data.toList).2 e w' ∧ Below w.heap.size w w' := by
  by_cases h0 : s.toList = []
  · have e : s.toList.isEmpty = true := by rw [h0]; rfl
    have e2 : textN s.data.toList = ([], 0) := by
      have : s.data.toList = [] := by rw [← Lib.toList_data]; exact h0
      rw [this]; rfl
    rw [e2]
    clear e2
    go_enter Tryd.func66, Tryd.ntmps66
    go_wp2
    go_ret2
    exact ⟨tokRes_nil _ _ _, Below.refl _ _⟩
  · have e : s.toList.isEmpty = false := by simpa using h0
    have e1 : s.data.toList.isEmpty = false := by rw [← Lib.toList_data]; exact e
    obtain ⟨⟨r, c⟩, hu⟩ : ∃ p, un s.data.toList = p := ⟨_, rfl⟩
    have hU := unescape_un s r c hu w hT hs
    by_cases hc : c = 0
    · subst hc
      have e2 : textN s.data.toList = ([⟨3, [], [], r⟩], 0) := by
        unfold textN
        rw [e1, hu]
        rfl
      rw [e2]
      clear e2 e1 hu
      go_enter Tryd.func66, Tryd.ntmps66
      go_wp2_with (go_at_call 77; refine hU.mono ?_)
      rintro e w1 ⟨rfl, hb⟩
      have hs1 := hb.size
      go_wp2
      go_ret2
      exact ⟨⟨_, _, _, rfl, (toks_one w1 w.heap.size 3 _ _ _ ⟨3, [], [], r⟩ hs1 rfl rfl rfl (attrs_nil _ _))⟩, hb.alloc hs1 _⟩
    · have e2 : textN s.data.toList = ([], c) := by
        unfold textN
        rw [e1, hu]
        simp [hc]
      rw [e2]
      have hc' : (c == 0) = false := by simpa using hc
      clear e2 e1 hu
      go_enter Tryd.func66, Tryd.ntmps66
      go_wp2_with (go_at_call 77; refine hU.mono ?_)
      rintro e w1 ⟨rfl, hb⟩
      go_wp2
      go_ret2
      exact ⟨tokRes_nil _ _ _, hb⟩
set_option maxHeartbeats 1000000 in
theorem readEnd_any (s : ByteArray) (w : World) (hs : s.size ≤ 2000000) :
    Calls Tryd.prog 79 #[.string s] w fun e w' => TokRes w.heap.size (endN s.data.toList).1 (endN s.data.toList).2 e w' ∧ Below w.heap.size w w' := by
  have h1 := trimRight_any s w hs
  cases hn : name (trimR s.data.toList) with
  | true =>
    have e2 : endN s.data.toList = ([⟨2, trimR s.data.toList, [], []⟩], 0) := by unfold endN; rw [hn]; rfl
    have h2 := fun W => name_at ⟨(trimR s.data.toList).toArray⟩ true hn W
    rw [e2]
    clear e2 hn
    go_enter Tryd.func79, Tryd.ntmps79
    go_wp2_with (go_at_call 89; refine h1.mono ?_)
    rintro e w1 ⟨rfl, hb⟩
    have hs1 := hb.size
    go_wp2_with (go_at_call 46; refine (h2 _).mono ?_)
    rintro e w2 ⟨rfl, hb2⟩
    have hb3 := hb.trans (hb2.mono hs1)
    have hs2 := hb3.size
    go_wp2
    go_ret2
    exact ⟨⟨_, _, _, rfl, (toks_one w2 w.heap.size 2 _ _ _ ⟨2, _, [], []⟩ hs2 rfl rfl rfl (attrs_nil _ _))⟩, hb3.alloc hs2 _⟩
  | false =>
    have e2 : endN s.data.toList = ([], 3) := by unfold endN; rw [hn]; rfl
    have h2 := fun W => name_at ⟨(trimR s.data.toList).toArray⟩ false hn W
    rw [e2]
    clear e2 hn
    go_enter Tryd.func79, Tryd.ntmps79
    go_wp2_with (go_at_call 89; refine h1.mono ?_)
    rintro e w1 ⟨rfl, hb⟩
    have hs1 := hb.size
    go_wp2_with (go_at_call 46; refine (h2 _).mono ?_)
    rintro e w2 ⟨rfl, hb2⟩
    have hb3 := hb.trans (hb2.mono hs1)
    go_wp2
    go_ret2
    exact ⟨tokRes_nil _ _ _, hb3⟩
end Go.Proofs.YthekdgnikkjpdaaDoor
