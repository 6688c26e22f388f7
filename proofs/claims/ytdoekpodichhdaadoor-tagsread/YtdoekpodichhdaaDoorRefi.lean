/-
  The contract of tidewaterref02.Tag over this program, where the tag is an element's end, or no tag: for every string of at most 100000 bytes.
-/
import Derived.Test.YtdoekpodichhdaaDoorRefh
namespace Go.Proofs.YtdoekpodichhdaaDoor
open Go.RowKit
/-- What a call of the reference that answers tokens answers. -/
def TokRes53 (B : Nat) (l : List Tok × Int) (e : Ending) (w : World) : Prop := ∃ ao n cap, e = .returned (.tuple #[.slice ao n cap, .int .i64 l.2]) ∧ ToksAt 53 B (.slice ao n cap) l.1 w
theorem tokRes53_nil (B : Nat) (c : Int) (w : World) : TokRes53 B ([], c) (.returned (.tuple #[.slice none 0 0, .int .i64 c])) w := ⟨none, 0, 0, rfl, ToksAt.nil _ _ _⟩
theorem toks53_one (w : World) (B : Nat) (k : Int) (n x : ByteArray) (v : Value) (t : Tok) (hB : B ≤ w.heap.size) (h1 : t.kind = k) (h2 : (⟨t.nm.toArray⟩ : ByteArray) = n) (h3 : (⟨t.text.toArray⟩ : ByteArray) = x) (h4 : AttrsAt B v t.attrs w) :
    ToksAt 53 B (.slice (some ⟨w.heap.size, 0, none⟩) 1 1) [t] (w.alloc (.cells #[.int .i64 k, .string n, v, .string x] 53)) := by
  subst h1 h2 h3
  exact ⟨_, owns_new w B 53 4 1 _ hB (by decide) rfl, v, [], rfl, h4.below ((Below.refl _ _).alloc (Nat.le_refl _) _), rfl⟩
theorem toks53_two (w : World) (B : Nat) (k : Int) (n x : ByteArray) (v : Value) (t : Tok) (hB : B ≤ w.heap.size) (h1 : t.kind = k) (h2 : (⟨t.nm.toArray⟩ : ByteArray) = n) (h3 : (⟨t.text.toArray⟩ : ByteArray) = x) (h4 : AttrsAt B v t.attrs w) :
    ToksAt 53 B (.slice (some ⟨w.heap.size, 0, none⟩) 2 2) [t, ⟨2, t.nm, [], []⟩] (w.alloc (.cells #[.int .i64 k, .string n, v, .string x, .int .i64 2, .string n, .slice none 0 0, .string ⟨#[]⟩] 53)) := by
  subst h1 h2 h3
  exact ⟨_, owns_new w B 53 4 2 _ hB (by decide) rfl, v, _, rfl, h4.below ((Below.refl _ _).alloc (Nat.le_refl _) _), _, [], rfl, attrs_nil _ _, rfl⟩
theorem blN_all (l : List UInt8) : (blN l = l.length) ↔ l.all bl = true := by
  unfold blN
  induction l with
  | nil => simp
  | cons a l ih =>
    cases ha : bl a with
    | true => simp [ha]; simpa using ih
    | false => simp [ha]
theorem blN_len (l : List UInt8) : blN l + (trimL l).length = l.length := by
  have := congrArg List.length (List.takeWhile_append_dropWhile (p := bl) (l := l))
  rw [List.length_append] at this
  exact this
set_option maxHeartbeats 2000000 in
theorem refTag_sign (s : ByteArray) (w : World) (hs : s.size ≤ 100000) (hr : right s.data.toList = false) :
    Calls Tryd.prog 19 #[.string s] w fun e w' => TokRes53 w.heap.size ([], 2) e w' ∧ Below w.heap.size w w' := by
  have H1 := fun W => refRight_at s 2 (by simp [rightN, hr]) hs W
  clear hr
  go_enter Tryd.func19, Tryd.ntmps19
  go_wp2_with (go_at_call 23; refine (H1 _).mono ?_; rintro e w' ⟨rfl, hw⟩; rw [hw])
  go_ret2
  exact ⟨tokRes53_nil _ _ _, Below.refl _ _⟩
/-- The first byte of a string. -/
theorem first_is (s : ByteArray) (c : UInt8) (t : List UInt8) (e : s.data.toList = c :: t) : ∃ h : 0 < s.size, s[0]'h = c ∧ (s.extract 1 s.size).data.toList = t := by
  have hl := congrArg List.length e
  rw [← size_list] at hl
  simp at hl
  have h : 0 < s.size := by omega
  have e2 := list_head s h
  rw [e] at e2
  cases e2
  exact ⟨h, rfl, rfl⟩
set_option maxHeartbeats 4000000 in
theorem refTag_slash (s : ByteArray) (w : World) (hs : s.size ≤ 100000) (hr : right s.data.toList = true) (r : List UInt8) (e : s.data.toList = 47 :: r) :
    Calls Tryd.prog 19 #[.string s] w fun e w' => TokRes53 w.heap.size (tagS r) e w' ∧ Below w.heap.size w w' := by
  have H1 := fun W => refRight_at s 0 (by simp [rightN, hr]) hs W
  obtain ⟨h0, hc, hx⟩ := first_is s 47 r e
  have hls : s.size = r.length + 1 := by rw [size_list, e]; rfl
  have hsz1 : (s.extract 1 s.size).size ≤ 100000 := by have := ext_size s 1 s.size; omega
  have H2 := fun W => refRun_any (s.extract 1 s.size) W hsz1
  rw [hx] at H2
  obtain ⟨n, hN⟩ : ∃ n, nmN r = n := ⟨_, rfl⟩
  have hnl : n ≤ r.length := by rw [← hN]; exact nmN_le r
  have hex : (s.extract 1 (1 + n)).data.toList = runN r := by
    rw [Lib.extract_data, e, ← hN, ← run_take r]
    congr 1
    omega
  have hez : (s.extract (1 + n) s.size).data.toList = runZ r := by
    rw [Lib.extract_data, e, ← runZ_drop r, hN, Nat.add_comm 1 n, List.drop_succ_cons]
    exact List.take_of_length_le (by rw [List.length_drop]; omega)
  have H3 := fun W => refName_any (s.extract 1 (1 + n)) W (by have := ext_size s 1 (1 + n); omega)
  have H4 := fun W => refBlanks_any (s.extract (1 + n) s.size) W (by have := ext_size s (1 + n) s.size; omega)
  rw [hex] at H3
  rw [hez] at H4
  simp only [hN] at H2
  have hzl : (runZ r).length = r.length - n := by rw [← runZ_drop r, List.length_drop, hN]
  have hfst : ((s[0]'h0).toNat : Int) = 47 := by rw [hc]; rfl
  have HEX : Hid _ := hex
  have hln : 1 + n ≤ s.size := by omega
  have HLS : Hid _ := hls
  clear hr e hc hx hez hex hls
  cases hn : name (runN r) with
  | false =>
    rw [show tagS r = ([], 3) by unfold tagS; rw [hn]; rfl]
    simp only [hn] at H3
    clear hn hzl
    go_enter Tryd.func19, Tryd.ntmps19
    go_wp2_with (first | (go_at_call 23; refine (H1 _).mono ?_; rintro e w' ⟨rfl, hw⟩; rw [hw]) | (go_at_call 25; refine (H2 _).mono ?_; rintro e w' ⟨rfl, hw⟩; rw [hw]) | (go_at_call 26; refine (H3 _).mono ?_; rintro e w' ⟨rfl, hw⟩; rw [hw]))
    go_ret2
    exact ⟨tokRes53_nil _ _ _, Below.refl _ _⟩
  | true =>
    simp only [hn] at H3
    obtain ⟨b, hb⟩ : ∃ b, blN (runZ r) = b := ⟨_, rfl⟩
    simp only [hb] at H4
    have hbl : b ≤ (runZ r).length := by rw [← hb]; exact len_le bl _
    by_cases hall : b = (runZ r).length
    · have ha : (runZ r).all bl = true := (blN_all _).1 (by rw [hb]; exact hall)
      rw [show tagS r = ([⟨2, runN r, [], []⟩], 0) by unfold tagS; rw [hn, ha]; rfl]
      have hbi : ((b : Int) != (s.size : Int) - 1 - (n : Int)) = false := by have := HLS.out; simp; omega
      clear hn hb hall ha hzl
      go_enter Tryd.func19, Tryd.ntmps19
      go_wp2_with (first | (go_at_call 23; refine (H1 _).mono ?_; rintro e w' ⟨rfl, hw⟩; rw [hw]) | (go_at_call 25; refine (H2 _).mono ?_; rintro e w' ⟨rfl, hw⟩; rw [hw]) | (go_at_call 26; refine (H3 _).mono ?_; rintro e w' ⟨rfl, hw⟩; rw [hw]) | (go_at_call 27; refine (H4 _).mono ?_; rintro e w' ⟨rfl, hw⟩; rw [hw]))
      go_ret2
      exact ⟨⟨_, _, _, rfl, toks53_one w w.heap.size 2 _ _ _ ⟨2, runN r, [], []⟩ (Nat.le_refl _) rfl (mk_of_list HEX.out).symm rfl (attrs_nil _ _)⟩, Below.alloc1 w _⟩
    · have ha : (runZ r).all bl = false := by
        cases h : (runZ r).all bl with
        | false => rfl
        | true => exact absurd (by rw [← hb]; exact (blN_all _).2 h) hall
      rw [show tagS r = ([], 3) by unfold tagS; rw [hn, ha]; rfl]
      have hbi : ((b : Int) != (s.size : Int) - 1 - (n : Int)) = true := by have := HLS.out; simp; omega
      clear hn hb ha hzl hall
      go_enter Tryd.func19, Tryd.ntmps19
      go_wp2_with (first | (go_at_call 23; refine (H1 _).mono ?_; rintro e w' ⟨rfl, hw⟩; rw [hw]) | (go_at_call 25; refine (H2 _).mono ?_; rintro e w' ⟨rfl, hw⟩; rw [hw]) | (go_at_call 26; refine (H3 _).mono ?_; rintro e w' ⟨rfl, hw⟩; rw [hw]) | (go_at_call 27; refine (H4 _).mono ?_; rintro e w' ⟨rfl, hw⟩; rw [hw]))
      go_ret2
      exact ⟨tokRes53_nil _ _ _, Below.refl _ _⟩
end Go.Proofs.YtdoekpodichhdaaDoor
