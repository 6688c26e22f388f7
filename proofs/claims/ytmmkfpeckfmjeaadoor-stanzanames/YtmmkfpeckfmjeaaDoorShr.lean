/-
  Over this program: the shapes of iq and item (iqShape, itemShape).
-/
import Derived.Test.YtmmkfpeckfmjeaaDoorShq
namespace Go.Proofs.YtmmkfpeckfmjeaaDoor
open Go Go.RowKit
/-- oneOf of a row of texts that has just been laid, behind a result's block. -/
theorem oneOf_new (w : World) (r : Nat) (hr : r < w.heap.size) (l : List (List UInt8)) (hbig : l.length ≤ 2000000) (k : Nat) (hk : l.length = k) (cs : Array Value) (hcs : cs.toList = strCells l) :
    Calls Tryd.prog 37 #[.slice (some ⟨w.heap.size, 0, none⟩) k k] (w.alloc (.cells cs 9)) fun e w' => e = .returned (.func (.func 59) #[] #[.pointer (some ⟨w.heap.size + 1, 0, none⟩)]) ∧ OneAt (fun k => r < k) w' (w.heap.size + 1) l ∧ Below (w.heap.size + 1) (w.alloc (.cells cs 9)) w' := by
  subst hk
  have e1 : (w.alloc (.cells cs 9)).heap.size = w.heap.size + 1 := by simp
  have h := oneOf_any (P := fun k => r < k) (some ⟨w.heap.size, 0, none⟩) l.length l (w.alloc (.cells cs 9)) (by rw [← hcs]; exact row_block w hr 9 cs l.length) hbig
  rw [e1] at h
  exact h.mono fun e w' ⟨h1, h2, h3⟩ => ⟨h1, h2.step (Stp.imp fun k hk => by rcases hk with hk | hk <;> omega), h3⟩
theorem nw_step {r : Nat} {w4 w5 w6 : World} {o : Obj} (z4 : r < w4.heap.size) (hs : ∀ k, k ≠ r → w6.heap[k]? = w5.heap[k]?) : Stp (Nw (fun k => r < k) (w4.alloc o).heap.size) (fun k => r ≤ k) w5 w6 := by
  intro k hk _
  have e : (w4.alloc o).heap.size = w4.heap.size + 1 := by simp
  rw [e] at hk
  have : r < k := by rcases hk with hk | hk <;> omega
  exact ⟨Nat.le_of_lt this, hs k (by omega)⟩
set_option maxHeartbeats 1000000 in
set_option maxRecDepth 100000 in
theorem iq_any (kind : List UInt8) (w : World) :
    Calls Tryd.prog 43 #[.string ⟨kind.toArray⟩] w fun e w' => NOut (fun k => w.heap.size ≤ k) 1 (iqS kind) e w' ∧ Below w.heap.size w w' := by
  have H37 : ∀ o, Calls Tryd.prog 37 #[.slice (some ⟨w.heap.size + 1, 0, none⟩) 1 1] ((w.alloc o).alloc (.cells #[.string ⟨kind.toArray⟩] 9)) fun e w' => e = .returned (.func (.func 59) #[] #[.pointer (some ⟨w.heap.size + 2, 0, none⟩)]) ∧ OneAt (fun k => w.heap.size < k) w' (w.heap.size + 2) [kind] ∧ Below (w.heap.size + 2) ((w.alloc o).alloc (.cells #[.string ⟨kind.toArray⟩] 9)) w' := fun o => by
    have e1 : (w.alloc o).heap.size = w.heap.size + 1 := by simp
    have h := oneOf_new (w.alloc o) w.heap.size (by rw [e1]; omega) [kind] (by simp) 1 rfl #[.string ⟨kind.toArray⟩] rfl
    rw [e1] at h
    exact h
  obtain ⟨s, hs⟩ : ∃ s : ByteArray, (⟨kind.toArray⟩ : ByteArray) = s := ⟨_, rfl⟩
  rw [hs] at H37 ⊢
  obtain ⟨S, hS⟩ : ∃ S, iqS kind = S := ⟨_, rfl⟩
  rw [hS]
  have HSS : Hid _ := hS
  clear hs hS
  go_enter Tryd.func43, Tryd.ntmps43
  go_wp2_with (first
    | (go_at_call 37; refine (H37 _).mono ?_; rintro e w2 ⟨rfl, ho2, hb2⟩
       have hA2 : At w.heap.size zero59 59 w2 := (At.below (At.alloc (heap_alloc_new w _) _) hb2 (by omega))
       have hbw2 : Below w.heap.size w w2 := ((((Below.refl _ _).alloc (Nat.le_refl _) _).alloc (by simp) _).trans (hb2.mono (by omega)))
       have ht2 := Lib.hid (tst_one ho2))
    | (go_at_call_of 34 (Value.string ⟨#[116, 121, 112, 101]⟩); refine (must_any ⟨[116, 121, 112, 101], oneN [kind], true⟩ rfl 59 _ w2 ht2.out).mono ?_; rintro e w3 ⟨⟨v, rfl, F1, cap1, rfl, ht1⟩, hb3⟩; have HT1 := Lib.hid ht1)
    | (go_at_call_of 34 (Value.string ⟨#[105, 100]⟩); refine (must_any (P := fun k => w.heap.size < k) ⟨[105, 100], wordN, true⟩ rfl 36 #[] w3 (.inr (.inr (.inr (.inl ⟨rfl, rfl⟩))))).mono ?_; rintro e w4 ⟨⟨v, rfl, F2, cap2, rfl, ht3⟩, hb4⟩; have HT3 := Lib.hid ht3; refine Hid.out ?_))
  refine Lib.hid ?_
  have z2 : w.heap.size < w2.heap.size := lt_of_heap hA2
  have hA4 : At w.heap.size zero59 59 w4 := At.below (At.below hA2 hb3 z2) hb4 (Nat.lt_of_lt_of_le z2 hb3.size)
  have hbw4 : Below w.heap.size w w4 := (hbw2.trans (hb3.mono (Nat.le_of_lt z2))).trans (hb4.mono (Nat.le_trans (Nat.le_of_lt z2) hb3.size))
  have z4 : w.heap.size < w4.heap.size := lt_of_heap hA4
  have H40 := bare_any [105, 113] [⟨[116, 121, 112, 101], oneN [kind], true⟩, ⟨[105, 100], wordN, true⟩] (some ⟨w4.heap.size, 0, none⟩) 2 2 (w4.alloc (.cells #[.string ⟨#[116, 121, 112, 101]⟩, .func (.func F1) #[] cap1, .bool true, .string ⟨#[105, 100]⟩, .func (.func F2) #[] cap2, .bool true] 70)) (P := fun k => w.heap.size < k)
    ⟨_, row_block w4 z4 70 _ 2, _, _, rfl, HT1.out.step (.below (hb4.trans (bw0 w4 _ |>.mono hb4.size))), _, _, rfl, HT3.out.step (.below (bw0 w4 _)), rfl⟩
  change Calls _ _ _ _ (fun e w' => NOut _ 1 (iqS kind) e w' ∧ _) at H40
  rw [HSS.out] at H40
  clear hA2 hbw2 ho2 hb2 ht2 H37 HT1 HT3 ht1 ht3
  go_wp2_with (go_at_call 40; refine H40.mono ?_; rintro e w5 ⟨⟨v, rfl, ao1, n1, c1, F, cap, ao, kk, kc, rfl, hN⟩, hb5⟩; refine Hid.out ?_)
  refine Lib.hid ?_
  have hA5 : At w.heap.size zero59 59 w5 := At.below (At.alloc hA4 _) hb5 (by simp; omega)
  have hbw5 : Below w.heap.size w w5 := (hbw4.alloc hbw4.size _).trans (hb5.mono (by simp; omega))
  obtain ⟨c0, c1', c2, c3, c4, c5, fz⟩ := z6 hA5
  obtain ⟨w6, hw6, hA6, hb6, hs6⟩ := store6 (a := .string ⟨S.nm.toArray⟩) (b := .slice ao1 n1 c1) (c := .func (.func F) #[] cap) (d := .int .i64 S.least) (e := .int .i64 S.most) (f := .slice ao kk kc) hA5 hbw5
  obtain ⟨d0, d1, d2, d3, d4, d5, _⟩ := z6 hA6
  have HN : Hid (NstAt _ _ _ _ _ _ _ _ _ _) := hN
  clear hN hA4 hA5 hA6 hb5 hbw4 hbw5 H40
  go_wp2_with fail
  refine bodyPost_ret (v := .agg #[.string ⟨S.nm.toArray⟩, .slice ao1 n1 c1, .func (.func F) #[] cap, .int .i64 S.least, .int .i64 S.most, .slice ao kk kc]) (by simp [results, Tryd.results43, go_sem, d0, d1, d2, d3, d4, d5]) rfl ⟨⟨_, rfl, ao1, n1, c1, F, cap, ao, kk, kc, rfl, NstAt.step (nw_step z4 hs6) HN.out⟩, hb6⟩
end Go.Proofs.YtmmkfpeckfmjeaaDoor
