/-
  The contract of trees.Write over this program: for every element of finite depth whose texts are of at most 2000000 bytes.
-/
import Derived.Test.YthekdgnikkjpdaaGreatDoorWrie
namespace Go.Proofs.YthekdgnikkjpdaaGreatDoor
open Go.RowKit
def writeN (e : El) : List UInt8 × Int := if rightE 4 e then (textE 4 e, 0) else ([], 3)
theorem flat_len {f : El → List UInt8} {m : Nat} : ∀ (l : List El), (∀ k ∈ l, (f k).length ≤ m) → (l.flatMap f).length ≤ l.length * m
  | [], _ => by simp
  | k :: l, h => by
    have h1 := h k (by simp)
    have h2 := flat_len l fun q hq => h q (by simp [hq])
    rw [List.flatMap_cons, List.length_append, List.length_cons, Nat.add_mul]
    omega
theorem textE_len : ∀ (d : Nat) (e : El), rightE d e = true → smallE d e → (textE d e).length ≤ 100000000 * 17 ^ d
  | 0, _, h, _ => by cases h
  | d + 1, e, hr, hs => by
    obtain ⟨m1, m2, m3, m4, m5⟩ := hs
    unfold rightE at hr
    simp only [Bool.and_eq_true, decide_eq_true_eq] at hr
    obtain ⟨r1, r2, r3, r4, r5⟩ := hr
    unfold rightA at r3
    simp only [Bool.and_eq_true, decide_eq_true_eq] at r3
    have hal := attrsOk_all _ _ r3.2
    have hat := attrsT_len e.attrs fun p hp => ⟨name_len (hal p hp).1, (m3 p hp).2⟩
    have hn := name_len r2
    have hx := (esc_length e.text).2
    have hk := flat_len (f := textE d) (m := 100000000 * 17 ^ d) e.kids fun k hk => textE_len d k (List.all_eq_true.1 r5 k hk) (m5 k hk)
    have hp : 1 ≤ 17 ^ d := Nat.one_le_pow _ _ (by omega)
    have hk2 : e.kids.length * (100000000 * 17 ^ d) ≤ 16 * (100000000 * 17 ^ d) := Nat.mul_le_mul_right _ r1
    have e17 : 17 ^ (d + 1) = 17 * 17 ^ d := by rw [Nat.pow_succ]; omega
    unfold textE
    rw [e17]
    split
    · simp only [List.length_append, List.length_cons, List.length_nil]
      omega
    · simp only [List.length_append, List.length_cons, List.length_nil]
      omega
set_option maxHeartbeats 2000000 in
set_option maxRecDepth 100000 in
theorem write_any {P : Nat → Prop} (m : Nat) (e : El) (s1 s2 : ByteArray) (ao1 ao2 : Option Addr) (n1 n2 cap1 cap2 : Nat) (w : World) (hT : Tabs w) (hsm : smallE 4 e) (hel : ElAt P w m e (.string s1) (.slice ao1 n1 cap1) (.string s2) (.slice ao2 n2 cap2)) :
    Calls Tryz.prog 6 #[.agg #[.string s1, .slice ao1 n1 cap1, .string s2, .slice ao2 n2 cap2]] w fun e' w' => e' = .returned (.tuple #[.string ⟨(writeN e).1.toArray⟩, .int .i64 (writeN e).2]) ∧ Below w.heap.size w w' := by
  have hT3 := hT.size
  have hb0 : ∀ o, Below w.heap.size w (w.alloc o) := fun o => (Below.refl _ _).alloc (Nat.le_refl _) o
  have H1 := fun o => rightEl_any m e s1 s2 ao1 ao2 n1 n2 cap1 cap2 (w.alloc o) (hT.below hT3 (hb0 o)) hsm (hel.step (row_below (hb0 o)))
  cases hr : rightE 4 e with
  | false =>
    have ew : writeN e = ([], 3) := by unfold writeN; rw [hr]; rfl
    rw [ew]
    rw [hr] at H1
    clear hr ew hel hsm
    go_enter Tryz.func6, Tryz.ntmps6
    go_wp2_with (go_at_call 9; refine (H1 _).mono ?_; rintro e' w1 ⟨rfl, hb1⟩)
    go_ret2
    exact ⟨rfl, (hb0 _).trans (hb1.mono (by simp))⟩
  | true =>
    have ew : writeN e = (textE 4 e, 0) := by unfold writeN; rw [hr]; rfl
    rw [ew]
    rw [hr] at H1
    have hlen := textE_len 4 e hr hsm
    have h17 : 100000000 * 17 ^ 4 ≤ 140737488355328 := by decide
    have hmf : ∀ (fn : Fn) (first cap : Array Value) (w : World), (Instr.makeFunc fn first cap).run Tryz.prog w = .ok (.func fn first cap) w := fun _ _ _ _ => rfl
    have H2 : ∀ W, Below w.heap.size w W → Calls Tryz.prog 14 #[.agg #[.string s1, .slice ao1 n1 cap1, .string s2, .slice ao2 n2 cap2], .pointer (some ⟨W.heap.size, 0, none⟩), .pointer (some ⟨W.heap.size + 1, 0, none⟩)] ((W.alloc (.cells #[.pointer none, .slice none 0 0] 46)).alloc (.cells #[writeF W.heap.size (W.heap.size + 1)] 47))
        (WRes W.heap.size W.heap.size (textE 4 e) ((W.alloc (.cells #[.pointer none, .slice none 0 0] 46)).alloc (.cells #[writeF W.heap.size (W.heap.size + 1)] 47))) := fun W hW => by
      have hz := hW.size
      have hb : Below w.heap.size w ((W.alloc (.cells #[.pointer none, .slice none 0 0] 46)).alloc (.cells #[writeF W.heap.size (W.heap.size + 1)] 47)) := (hW.alloc hz _).alloc (by simp; omega) _
      refine writeC_any W.heap.size W.heap.size (W.heap.size + 1) _ rfl 4 m e [] s1 s2 ao1 ao2 n1 n2 cap1 cap2 _ hr (hT.below hT3 hb) (by omega) (by simp; omega) ?_ (by omega) hsm ?_ (by simp; omega) (hel.step fun k _ hk => ⟨by omega, hb.block k hk⟩)
      · have := heap_alloc_new (W.alloc (.cells #[.pointer none, .slice none 0 0] 46)) (.cells #[writeF W.heap.size (W.heap.size + 1)] 47)
        simp only [World.size_alloc] at this
        exact this
      · exact (Lib.IsBuilderF.of (Lib.fresh_isBuilder 46 5 W)).alloc _
    unfold writeF at H2
    clear hr ew hel hsm hlen
    go_enter Tryz.func6, Tryz.ntmps6
    go_wp2_with (first | (go_at_call 9; refine (H1 _).mono ?_; rintro e' w1 ⟨rfl, hb1⟩; have bw1 := (hb0 _).trans (hb1.mono (by simp)); have hc1 := el4 (At.below (heap_alloc_new w _ : At w.heap.size _ 25 _) hb1 (by simp)); obtain ⟨x0, x1, x2, x3⟩ := hc1; have hz1 := hb1.size; simp at hz1; have hlt1 : w.heap.size < w1.heap.size := (by omega); have hlt2 : w.heap.size < w1.heap.size + 1 := (by omega)) | (go_at_call 14; refine (H2 _ bw1).mono ?_; rintro e' w2 ⟨rfl, hI2, hB2, hO2⟩; have hz2 := hB2.size; simp at hz2) | (go_at_call 18; refine (Tryz.Builder_String_any_k w1.heap.size w1.heap.size (textE 4 e) _ hI2 (by omega)).mono ?_; rintro e' w3 ⟨rfl, _, hB3, _⟩))
    go_ret2
    have q1 := (bw1.alloc bw1.size (.cells #[.pointer none, .slice none 0 0] 46)).alloc (by simp; have := bw1.size; omega) (.cells #[writeF w1.heap.size (w1.heap.size + 1)] 47)
    unfold writeF at q1
    exact ⟨rfl, (q1.trans (hB2.mono bw1.size)).trans (hB3.mono bw1.size)⟩
end Go.Proofs.YthekdgnikkjpdaaGreatDoor
