/-
  Over this program: the shape of an item (itemShape).
-/
import Derived.Test.YtmmkfpeckfmjeaaDoorShr
namespace Go.Proofs.YtmmkfpeckfmjeaaDoor
open Go Go.RowKit
def Pi (P : Nat → Prop) (r : Nat) (k : Nat) : Prop := (P k ∧ k < r) ∨ r < k
theorem pi_in {P : Nat → Prop} {w w' : World} (hb : Below w.heap.size w w') : Stp P (Pi P w.heap.size) w w' := fun k hk hl => ⟨.inl ⟨hk, hl⟩, hb.block k hl⟩
theorem pi_out {P : Nat → Prop} {r B : Nat} {w5 w6 : World} (hB : r < B) (hs : ∀ k, k ≠ r → w6.heap[k]? = w5.heap[k]?) : Stp (Nw (Pi P r) B) (Nw P r) w5 w6 := by
  intro k hk _
  rcases hk with (⟨h1, h2⟩ | h) | h
  · exact ⟨.inl h1, hs k (by omega)⟩
  · exact ⟨.inr (Nat.le_of_lt h), hs k (by omega)⟩
  · exact ⟨.inr (by omega), hs k (by omega)⟩
theorem pi_nw {P : Nat → Prop} {r B : Nat} {w : World} (hB : r < B) : Stp (Nw (Pi P r) B) (Pi P r) w w := Stp.imp fun k hk => by
  rcases hk with h | h
  · exact h
  · exact .inr (by omega)
set_option maxHeartbeats 1000000 in
set_option maxRecDepth 100000 in
theorem item_any {P : Nat → Prop} (l : List (List UInt8)) (ao : Option Addr) (n cp : Nat) (w : World) (hn : l.length = n) (hl : Row P w (.slice ao n cp) n (strCells l)) (hbig : n ≤ 2000000) :
    Calls Tryd.prog 39 #[.slice ao n cp] w fun e w' => NOut (Nw P w.heap.size) 1 (itemS l) e w' ∧ Below w.heap.size w w' := by
  obtain ⟨S, hS⟩ : ∃ S, itemS l = S := ⟨_, rfl⟩
  rw [hS]
  have HSS : Hid _ := hS
  have HL : Hid (Row _ _ _ _ _) := hl
  have HN : Hid (l.length = n) := hn
  have H37 : ∀ W, Below w.heap.size w W → w.heap.size < W.heap.size → Calls Tryd.prog 37 #[.slice ao n cp] W fun e w' => e = .returned (.func (.func 59) #[] #[.pointer (some ⟨W.heap.size, 0, none⟩)]) ∧ TstAt (Pi P w.heap.size) w' (.func (.func 59) #[] #[.pointer (some ⟨W.heap.size, 0, none⟩)]) (oneN l) ∧ Below W.heap.size W w' := fun W hb hlt => by
    have h1 := Row.step HL.out (pi_in hb)
    rw [← HN.out] at h1 hbig ⊢
    exact (oneOf_any ao cp l W h1 hbig).mono fun e w' ⟨q1, q2, q3⟩ => ⟨q1, tst_one (q2.step (pi_nw hlt)), q3⟩
  clear hS hl hn hbig
  have hz1 : ∀ o, (w.alloc o).heap.size = w.heap.size + 1 := fun o => by simp
  go_enter Tryd.func39, Tryd.ntmps39
  go_wp2_with (first
    | (go_at_call_of 34 (Value.string ⟨#[106, 105, 100]⟩); refine (must_any (P := Pi P w.heap.size) ⟨[106, 105, 100], userN, true⟩ rfl 14 #[] _ (.inl ⟨rfl, rfl⟩)).mono ?_; rintro e w2 ⟨⟨v, rfl, F1, cap1, rfl, ht1⟩, hb2⟩
       have b2 : Below w.heap.size w w2 := ((bw0 w _).trans (hb2.mono (bw0 w _).size))
       have hA2 : At w.heap.size zero59 59 w2 := (At.below (heap_alloc_new w _) hb2 (by simp)))
    | (go_at_call_of 32 (Value.string ⟨#[110, 97, 109, 101]⟩); refine (may_any (P := Pi P w.heap.size) ⟨[110, 97, 109, 101], wordN, false⟩ rfl 36 #[] w2 (.inr (.inr (.inr (.inl ⟨rfl, rfl⟩))))).mono ?_; rintro e w3 ⟨⟨v, rfl, F2, cap2, rfl, ht2⟩, hb3⟩
       have b3 : Below w.heap.size w w3 := (b2.trans (hb3.mono b2.size))
       have hA3 : At w.heap.size zero59 59 w3 := (At.below hA2 hb3 (lt_of_heap hA2)))
    | (go_at_call_of 37 (Value.slice ao n cp); refine (H37 w3 b3 (lt_of_heap hA3)).mono ?_; rintro e w4 ⟨rfl, ht3, hb4⟩
       have HT3 := Lib.hid ht3
       have b4 : Below w.heap.size w w4 := (b3.trans (hb4.mono b3.size))
       have hA4 : At w.heap.size zero59 59 w4 := (At.below hA3 hb4 (lt_of_heap hA3)))
    | (go_at_call_of 32 (Value.string ⟨#[115, 117, 98, 115, 99, 114, 105, 112, 116, 105, 111, 110]⟩); refine (may_any (P := Pi P w.heap.size) ⟨[115, 117, 98, 115, 99, 114, 105, 112, 116, 105, 111, 110], oneN l, false⟩ rfl 59 _ w4 HT3.out).mono ?_; rintro e w5 ⟨⟨v, rfl, F4, cap4, rfl, ht4⟩, hb5⟩
       have b5 : Below w.heap.size w w5 := (b4.trans (hb5.mono b4.size))
       have hA5 : At w.heap.size zero59 59 w5 := (At.below hA4 hb5 (lt_of_heap hA4))
       have z5 := lt_of_heap hA5)
    | (go_at_call 37; refine (oneOf_new w5 w.heap.size z5 [[115, 117, 98, 115, 99, 114, 105, 98, 101]] (by decide) 1 rfl #[.string ⟨#[115, 117, 98, 115, 99, 114, 105, 98, 101]⟩] rfl).mono ?_; rintro e w6 ⟨rfl, ho6, hb6⟩
       have HO6 := Lib.hid ho6
       have b6 : Below w.heap.size w w6 := ((b5.alloc b5.size _).trans (hb6.mono (by omega)))
       have hA6 : At w.heap.size zero59 59 w6 := (At.below (At.alloc hA5 _) hb6 (by omega)))
    | (go_at_call_of 32 (Value.string ⟨#[97, 115, 107]⟩); refine (may_any (P := Pi P w.heap.size) ⟨[97, 115, 107], oneN [[115, 117, 98, 115, 99, 114, 105, 98, 101]], false⟩ rfl 59 _ w6 (TstAt.step (tst_one HO6.out) (Stp.imp fun k hk => .inr hk))).mono ?_; rintro e w7 ⟨⟨v, rfl, F5, cap5, rfl, ht5⟩, hb7⟩
       have b7 : Below w.heap.size w w7 := (b6.trans (hb7.mono b6.size))
       have hA7 : At w.heap.size zero59 59 w7 := (At.below hA6 hb7 (lt_of_heap hA6)); refine Hid.out ?_))
  refine Lib.hid ?_
  have z7 := lt_of_heap hA7
  have s6 : w5.heap.size ≤ w6.heap.size := by have := hb6.size; simp at this; omega
  have q6 : Below w5.heap.size w5 w6 := (bw0 w5 _).trans (hb6.mono (by omega))
  have g4 : ∀ o, Below w5.heap.size w5 (w7.alloc o) := fun o => (q6.trans (hb7.mono q6.size)).trans ((bw0 w7 o).mono (Nat.le_trans q6.size hb7.size))
  have g2 : ∀ o, Below w3.heap.size w3 (w7.alloc o) := fun o => ((hb4.trans (hb5.mono hb4.size)).trans ((g4 o).mono (Nat.le_trans hb4.size hb5.size)))
  have g1 : ∀ o, Below w2.heap.size w2 (w7.alloc o) := fun o => hb3.trans ((g2 o).mono hb3.size)
  have H40 := bare_any [105, 116, 101, 109] [⟨[106, 105, 100], userN, true⟩, ⟨[110, 97, 109, 101], wordN, false⟩, ⟨[115, 117, 98, 115, 99, 114, 105, 112, 116, 105, 111, 110], oneN l, false⟩, ⟨[97, 115, 107], oneN [[115, 117, 98, 115, 99, 114, 105, 98, 101]], false⟩] (some ⟨w7.heap.size, 0, none⟩) 4 4
    (w7.alloc (.cells #[.string ⟨#[106, 105, 100]⟩, .func (.func F1) #[] cap1, .bool true, .string ⟨#[110, 97, 109, 101]⟩, .func (.func F2) #[] cap2, .bool false, .string ⟨#[115, 117, 98, 115, 99, 114, 105, 112, 116, 105, 111, 110]⟩, .func (.func F4) #[] cap4, .bool false, .string ⟨#[97, 115, 107]⟩, .func (.func F5) #[] cap5, .bool false] 70)) (P := Pi P w.heap.size)
    ⟨_, row_block w7 (.inr z7) 70 _ 4, _, _, rfl, ht1.step (.below (g1 _)), _, _, rfl, ht2.step (.below (g2 _)), _, _, rfl, ht4.step (.below (g4 _)), _, _, rfl, ht5.step (.below (bw0 w7 _)), rfl⟩
  change Calls _ _ _ _ (fun e w' => NOut _ 1 (itemS l) e w' ∧ _) at H40
  rw [HSS.out] at H40
  clear ht1 ht2 ht3 ht4 ht5 ho6 HT3 HO6 H37 g1 g2 g4 q6 s6 hb2 hb3 hb4 hb5 hb6 hb7 hA2 hA3 hA4 hA5 hA6 b2 b3 b4 b5 b6 z5
  go_wp2_with (go_at_call 40; refine H40.mono ?_; rintro e w8 ⟨⟨v, rfl, ao1, n1, c1, F, cap, ao2, kk, kc, rfl, hN⟩, hb8⟩; refine Hid.out ?_)
  refine Lib.hid ?_
  have hA8 : At w.heap.size zero59 59 w8 := At.below (At.alloc hA7 _) hb8 (by simp; omega)
  have b8 : Below w.heap.size w w8 := (b7.alloc b7.size _).trans (hb8.mono (by simp; omega))
  obtain ⟨c0, c1', c2, c3, c4, c5, fz⟩ := z6 hA8
  obtain ⟨w9, hw9, hA9, hb9, hs9⟩ := store6 (a := .string ⟨S.nm.toArray⟩) (b := .slice ao1 n1 c1) (c := .func (.func F) #[] cap) (d := .int .i64 S.least) (e := .int .i64 S.most) (f := .slice ao2 kk kc) hA8 b8
  obtain ⟨d0, d1, d2, d3, d4, d5, _⟩ := z6 hA9
  have HNN : Hid (NstAt _ _ _ _ _ _ _ _ _ _) := hN
  clear hN hA7 hA8 hA9 hb8 b7 b8 H40
  go_wp2_with fail
  refine bodyPost_ret (v := .agg #[.string ⟨S.nm.toArray⟩, .slice ao1 n1 c1, .func (.func F) #[] cap, .int .i64 S.least, .int .i64 S.most, .slice ao2 kk kc]) (by simp [results, Tryd.results39, go_sem, d0, d1, d2, d3, d4, d5]) rfl ⟨⟨_, rfl, ao1, n1, c1, F, cap, ao2, kk, kc, rfl, NstAt.step (pi_out (by simp; omega) hs9) HNN.out⟩, hb9⟩
end Go.Proofs.YtmmkfpeckfmjeaaDoor
