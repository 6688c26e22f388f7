/-
  Over this program: how shapes lie in memory, and the functions that make them.
-/
import Derived.Test.YtmmkfpeckfmjeaaDoorPsta
namespace Go.Proofs.YtmmkfpeckfmjeaaDoor
open Go Go.RowKit
/-- What goes on from blocks of P to blocks of P'. -/
def Stp (P P' : Nat → Prop) (w w' : World) : Prop := ∀ k, P k → k < w.heap.size → P' k ∧ w'.heap[k]? = w.heap[k]?
theorem Stp.below {P : Nat → Prop} {w w' : World} (hb : Below w.heap.size w w') : Stp P P w w' := fun k hk hl => ⟨hk, hb.block k hl⟩
theorem Stp.imp {P P' : Nat → Prop} {w : World} (h : ∀ k, P k → P' k) : Stp P P' w w := fun k hk _ => ⟨h k hk, rfl⟩
/-- A test of texts, as a value: one of the five functions, or one that oneOf has made. -/
def TstAt (P : Nat → Prop) (w : World) (v : Value) (p : List UInt8 → Bool) : Prop :=
  (v = .func (.func 14) #[] #[] ∧ p = userN) ∨ (v = .func (.func 33) #[] #[] ∧ p = verN) ∨ (v = .func (.func 35) #[] #[] ∧ p = numN) ∨ (v = .func (.func 36) #[] #[] ∧ p = wordN) ∨
    (v = .func (.func 41) #[] #[] ∧ p = addrOk) ∨ ∃ c l, v = .func (.func 59) #[] #[.pointer (some ⟨c, 0, none⟩)] ∧ p = oneN l ∧ OneAt P w c l
theorem TstAt.step {P P' : Nat → Prop} {w w' : World} {v : Value} {p : List UInt8 → Bool} (h : TstAt P w v p) (hp : Stp P P' w w') : TstAt P' w' v p := by
  rcases h with h | h | h | h | h | ⟨c, l, h1, h2, h3⟩
  · exact .inl h
  · exact .inr (.inl h)
  · exact .inr (.inr (.inl h))
  · exact .inr (.inr (.inr (.inl h)))
  · exact .inr (.inr (.inr (.inr (.inl h))))
  · exact .inr (.inr (.inr (.inr (.inr ⟨c, l, h1, h2, h3.step hp⟩))))
theorem TstAt.shape {P : Nat → Prop} {w : World} {v : Value} {p : List UInt8 → Bool} (h : TstAt P w v p) : ∃ F cap, v = .func (.func F) #[] cap := by
  rcases h with ⟨h, _⟩ | ⟨h, _⟩ | ⟨h, _⟩ | ⟨h, _⟩ | ⟨h, _⟩ | ⟨c, l, h, _⟩ <;> exact ⟨_, _, h⟩
theorem tst_one {P : Nat → Prop} {w : World} {c : Nat} {l : List (List UInt8)} (h : OneAt P w c l) : TstAt P w (.func (.func 59) #[] #[.pointer (some ⟨c, 0, none⟩)]) (oneN l) := .inr (.inr (.inr (.inr (.inr ⟨c, l, rfl, rfl, h⟩))))
def FdsAt (P : Nat → Prop) (w : World) : List Fd → List Value → Prop
  | [], xs => xs = []
  | f :: fs, xs => ∃ v ys, xs = .string ⟨f.nm.toArray⟩ :: v :: .bool f.must :: ys ∧ TstAt P w v f.p ∧ FdsAt P w fs ys
theorem FdsAt.step {P P' : Nat → Prop} {w w' : World} (hp : Stp P P' w w') : ∀ {l : List Fd} {xs : List Value}, FdsAt P w l xs → FdsAt P' w' l xs
  | [], _, h => h
  | _ :: _, _, ⟨v, ys, e, h1, h2⟩ => ⟨v, ys, e, h1.step hp, FdsAt.step hp h2⟩
def NKids (R : Nst → Value → Value → Value → Value → Value → Value → Prop) : List Nst → List Value → Prop
  | [], xs => xs = []
  | s :: r, xs => ∃ a b c d e f ys, xs = a :: b :: c :: d :: e :: f :: ys ∧ R s a b c d e f ∧ NKids R r ys
theorem NKids.imp {R R' : Nst → Value → Value → Value → Value → Value → Value → Prop} (h : ∀ s a b c d e f, R s a b c d e f → R' s a b c d e f) : ∀ {l : List Nst} {xs : List Value}, NKids R l xs → NKids R' l xs
  | [], _, k => k
  | _ :: _, _, ⟨a, b, c, d, e, f, ys, q, k1, k2⟩ => ⟨a, b, c, d, e, f, ys, q, h _ _ _ _ _ _ _ k1, NKids.imp h k2⟩
/-- The fields of a shape, as a slice. -/
def FRow (P : Nat → Prop) (w : World) (v : Value) (l : List Fd) : Prop := ∃ xs, Row P w v l.length xs ∧ FdsAt P w l xs
theorem FRow.step {P P' : Nat → Prop} {w w' : World} {v : Value} {l : List Fd} (h : FRow P w v l) (hp : Stp P P' w w') : FRow P' w' v l := by
  obtain ⟨xs, h1, h2⟩ := h
  exact ⟨xs, h1.step hp, h2.step hp⟩
/-- A shape of at most n levels, as six cells. -/
def NstAt (P : Nat → Prop) (w : World) : Nat → Nst → Value → Value → Value → Value → Value → Value → Prop
  | 0, _, _, _, _, _, _, _ => False
  | n + 1, s, a, b, c, d, e, f => a = .string ⟨s.nm.toArray⟩ ∧ FRow P w b s.fds ∧ TstAt P w c s.text ∧ d = .int .i64 s.least ∧ e = .int .i64 s.most ∧ ∃ xs, Row P w f s.kids.length xs ∧ NKids (NstAt P w n) s.kids xs
theorem NstAt.step {P P' : Nat → Prop} {w w' : World} (hp : Stp P P' w w') : ∀ {n : Nat} {s : Nst} {a b c d e f : Value}, NstAt P w n s a b c d e f → NstAt P' w' n s a b c d e f
  | 0, _, _, _, _, _, _, _, h => h.elim
  | _ + 1, _, _, _, _, _, _, _, ⟨h1, h2, h3, h4, h5, xs, h6, h7⟩ => ⟨h1, h2.step hp, h3.step hp, h4, h5, xs, h6.step hp, h7.imp fun _ _ _ _ _ _ _ k => NstAt.step hp k⟩
theorem NstAt.mono {P : Nat → Prop} {w : World} : ∀ {n m : Nat} {s : Nst} {a b c d e f : Value}, n ≤ m → NstAt P w n s a b c d e f → NstAt P w m s a b c d e f
  | 0, _, _, _, _, _, _, _, _, _, h => h.elim
  | n + 1, 0, _, _, _, _, _, _, _, h, _ => by omega
  | _ + 1, _ + 1, _, _, _, _, _, _, _, hn, ⟨h1, h2, h3, h4, h5, xs, h6, h7⟩ => ⟨h1, h2, h3, h4, h5, xs, h6, h7.imp fun _ _ _ _ _ _ _ k => NstAt.mono (Nat.le_of_succ_le_succ hn) k⟩
/-- A shape, as the value that a call answers. -/
def NRes (P : Nat → Prop) (n : Nat) (s : Nst) (w : World) (v : Value) : Prop := ∃ ao1 n1 c1 F cap ao k kc, v = .agg #[.string ⟨s.nm.toArray⟩, .slice ao1 n1 c1, .func (.func F) #[] cap, .int .i64 s.least, .int .i64 s.most, .slice ao k kc] ∧
  NstAt P w n s (.string ⟨s.nm.toArray⟩) (.slice ao1 n1 c1) (.func (.func F) #[] cap) (.int .i64 s.least) (.int .i64 s.most) (.slice ao k kc)
theorem NRes.step {P P' : Nat → Prop} {n : Nat} {s : Nst} {w w' : World} {v : Value} (h : NRes P n s w v) (hp : Stp P P' w w') : NRes P' n s w' v := by
  obtain ⟨ao1, n1, c1, F, cap, ao, k, kc, h2, h3⟩ := h
  exact ⟨ao1, n1, c1, F, cap, ao, k, kc, h2, h3.step hp⟩
theorem NRes.mono {P : Nat → Prop} {n m : Nat} {s : Nst} {w : World} {v : Value} (h : NRes P n s w v) (hn : n ≤ m) : NRes P m s w v := by
  obtain ⟨ao1, n1, c1, F, cap, ao, k, kc, h2, h3⟩ := h
  exact ⟨ao1, n1, c1, F, cap, ao, k, kc, h2, h3.mono hn⟩
def FRes (P : Nat → Prop) (f : Fd) (w : World) (v : Value) : Prop := ∃ F cap, v = .agg #[.string ⟨f.nm.toArray⟩, .func (.func F) #[] cap, .bool f.must] ∧ TstAt P w (.func (.func F) #[] cap) f.p
theorem FRes.step {P P' : Nat → Prop} {f : Fd} {w w' : World} {v : Value} (h : FRes P f w v) (hp : Stp P P' w w') : FRes P' f w' v := by
  obtain ⟨F, cap, h1, h2⟩ := h
  exact ⟨F, cap, h1, h2.step hp⟩
def FOut (P : Nat → Prop) (f : Fd) (e : Ending) (w : World) : Prop := ∃ v, e = .returned v ∧ FRes P f w v
def NOut (P : Nat → Prop) (n : Nat) (s : Nst) (e : Ending) (w : World) : Prop := ∃ v, e = .returned v ∧ NRes P n s w v
theorem bw0 (w : World) (o : Obj) : Below w.heap.size w (w.alloc o) := (Below.refl _ _).alloc (Nat.le_refl _) o
set_option maxRecDepth 100000 in
theorem may_any (f : Fd) (hm : f.must = false) (F : Nat) (cap : Array Value) (w : World) {P : Nat → Prop} (h : TstAt P w (.func (.func F) #[] cap) f.p) :
    Calls Tryd.prog 32 #[.string ⟨f.nm.toArray⟩, .func (.func F) #[] cap] w fun e w' => FOut P f e w' ∧ Below w.heap.size w w' := by
  have H : Hid (TstAt _ _ _ _) := h
  have HM : Hid _ := hm
  obtain ⟨s, hs⟩ : ∃ s : ByteArray, (⟨f.nm.toArray⟩ : ByteArray) = s := ⟨_, rfl⟩
  have HS : Hid _ := hs
  rw [hs]
  clear h hm hs
  go_enter Tryd.func32, Tryd.ntmps32
  go_wp2_with fail
  refine bodyPost_ret (v := .agg #[.string s, .func (.func F) #[] cap, .bool false]) (by simp [results, Tryd.results32, go_sem]) rfl ⟨⟨_, rfl, F, cap, ?_, TstAt.step H.out (.below (bw0 w _))⟩, bw0 w _⟩
  rw [HS.out, HM.out]
set_option maxRecDepth 100000 in
theorem must_any (f : Fd) (hm : f.must = true) (F : Nat) (cap : Array Value) (w : World) {P : Nat → Prop} (h : TstAt P w (.func (.func F) #[] cap) f.p) :
    Calls Tryd.prog 34 #[.string ⟨f.nm.toArray⟩, .func (.func F) #[] cap] w fun e w' => FOut P f e w' ∧ Below w.heap.size w w' := by
  have H : Hid (TstAt _ _ _ _) := h
  have HM : Hid _ := hm
  obtain ⟨s, hs⟩ : ∃ s : ByteArray, (⟨f.nm.toArray⟩ : ByteArray) = s := ⟨_, rfl⟩
  have HS : Hid _ := hs
  rw [hs]
  clear h hm hs
  go_enter Tryd.func34, Tryd.ntmps34
  go_wp2_with fail
  refine bodyPost_ret (v := .agg #[.string s, .func (.func F) #[] cap, .bool true]) (by simp [results, Tryd.results34, go_sem]) rfl ⟨⟨_, rfl, F, cap, ?_, TstAt.step H.out (.below (bw0 w _))⟩, bw0 w _⟩
  rw [HS.out, HM.out]
set_option maxRecDepth 100000 in
theorem saying_any (nm : List UInt8) (p : List UInt8 → Bool) (F : Nat) (cap : Array Value) (w : World) {P : Nat → Prop} (h : TstAt P w (.func (.func F) #[] cap) p) :
    Calls Tryd.prog 38 #[.string ⟨nm.toArray⟩, .func (.func F) #[] cap] w fun e w' => NOut P 1 (sayS nm p) e w' ∧ Below w.heap.size w w' := by
  have H : Hid (TstAt _ _ _ _) := h
  obtain ⟨s, hs⟩ : ∃ s : ByteArray, (⟨nm.toArray⟩ : ByteArray) = s := ⟨_, rfl⟩
  have HS : Hid _ := hs
  rw [hs]
  clear h hs
  go_enter Tryd.func38, Tryd.ntmps38
  go_wp2_with fail
  refine bodyPost_ret (v := .agg #[.string s, .slice none 0 0, .func (.func F) #[] cap, .int .i64 0, .int .i64 0, .slice none 0 0]) (by simp [results, Tryd.results38, go_sem]) rfl ⟨⟨_, rfl, none, 0, 0, F, cap, none, 0, 0, ?_, ?_⟩, bw0 w _⟩
  · rw [← HS.out]; rfl
  · exact ⟨rfl, ⟨[], row_nil _ _ _ _, rfl⟩, TstAt.step H.out (.below (bw0 w _)), rfl, rfl, [], row_nil _ _ _ _, rfl⟩
theorem row_block {P : Nat → Prop} (w : World) (hP : P w.heap.size) (t : TypeId) (cs : Array Value) (k : Nat) : Row P (w.alloc (.cells cs t)) (.slice (some ⟨w.heap.size, 0, none⟩) k k) k cs.toList := by
  refine ⟨_, _, rfl, fun i x hx => ⟨_, rfl, hP, ?_⟩⟩
  have hadd : (⟨w.heap.size, 0, none⟩ : Addr).add i = ⟨w.heap.size, i, none⟩ := by unfold Addr.add; split <;> simp_all
  rw [hadd, Lib.cell_of_heap (heap_alloc_new w _)]
  rw [← Array.getElem?_toList]
  exact hx
def zero59 : Array Value := #[.string ⟨#[]⟩, .slice none 0 0, .nilFunc, .int .i64 0, .int .i64 0, .slice none 0 0]
theorem z6 {r : Nat} {a b c d e f : Value} {T : TypeId} {w : World} (h : At r #[a, b, c, d, e, f] T w) : w.cell? ⟨r, 0, none⟩ = some a ∧ w.cell? ⟨r, 1, none⟩ = some b ∧ w.cell? ⟨r, 2, none⟩ = some c ∧ w.cell? ⟨r, 3, none⟩ = some d ∧ w.cell? ⟨r, 4, none⟩ = some e ∧ w.cell? ⟨r, 5, none⟩ = some f ∧ ∀ o, w.frozen? ⟨r, o, none⟩ = false :=
  ⟨by rw [Lib.cell_of_heap h]; rfl, by rw [Lib.cell_of_heap h]; rfl, by rw [Lib.cell_of_heap h]; rfl, by rw [Lib.cell_of_heap h]; rfl, by rw [Lib.cell_of_heap h]; rfl, by rw [Lib.cell_of_heap h]; rfl, Lib.frozen_of_heap h⟩
/-- Six cells stored into the result's block. -/
theorem store6 {w w2 : World} {x0 x1 x2 x3 x4 x5 a b c d e f : Value} {T : TypeId} (hA : At w.heap.size #[x0, x1, x2, x3, x4, x5] T w2) (hb : Below w.heap.size w w2) :
    ∃ w3, ((((((w2.setCell ⟨w.heap.size, 0, none⟩ a).setCell ⟨w.heap.size, 1, none⟩ b).setCell ⟨w.heap.size, 2, none⟩ c).setCell ⟨w.heap.size, 3, none⟩ d).setCell ⟨w.heap.size, 4, none⟩ e).setCell ⟨w.heap.size, 5, none⟩ f) = w3 ∧ At w.heap.size #[a, b, c, d, e, f] T w3 ∧ Below w.heap.size w w3 ∧ ∀ k, k ≠ w.heap.size → w3.heap[k]? = w2.heap[k]? := by
  refine ⟨_, rfl, (((((hA.set 0 _).set 1 _).set 2 _).set 3 _).set 4 _).set 5 _, (((((hb.setCell (Nat.le_refl _) _).setCell (Nat.le_refl _) _).setCell (Nat.le_refl _) _).setCell (Nat.le_refl _) _).setCell (Nat.le_refl _) _).setCell (Nat.le_refl _) _, fun k hne => ?_⟩
  rw [Below.heap_setCell _ _ _ k hne, Below.heap_setCell _ _ _ k hne, Below.heap_setCell _ _ _ k hne, Below.heap_setCell _ _ _ k hne, Below.heap_setCell _ _ _ k hne, Below.heap_setCell _ _ _ k hne]
set_option maxHeartbeats 1000000 in
set_option maxRecDepth 100000 in
theorem bare_any (nm : List UInt8) (fds : List Fd) (ao : Option Addr) (n c : Nat) (w : World) {P : Nat → Prop} (h : FRow P w (.slice ao n c) fds) :
    Calls Tryd.prog 40 #[.string ⟨nm.toArray⟩, .slice ao n c] w fun e w' => NOut (Nw P w.heap.size) 1 (bareS nm fds) e w' ∧ Below w.heap.size w w' := by
  have H : Hid (FRow _ _ _ _) := h
  obtain ⟨s, hs⟩ : ∃ s : ByteArray, (⟨nm.toArray⟩ : ByteArray) = s := ⟨_, rfl⟩
  have HS : Hid _ := hs
  rw [hs]
  clear h hs
  have H37 : ∀ o, Calls Tryd.prog 37 #[.slice (some ⟨w.heap.size + 1, 0, none⟩) 1 1] ((w.alloc o).alloc (.cells #[.string ⟨#[]⟩] 9)) fun e w' => e = .returned (.func (.func 59) #[] #[.pointer (some ⟨w.heap.size + 2, 0, none⟩)]) ∧ OneAt (fun k => w.heap.size < k) w' (w.heap.size + 2) [[]] ∧ Below (w.heap.size + 2) ((w.alloc o).alloc (.cells #[.string ⟨#[]⟩] 9)) w' := fun o => by
    have e1 : (w.alloc o).heap.size = w.heap.size + 1 := by simp
    have e2 : ((w.alloc o).alloc (.cells #[.string ⟨#[]⟩] 9)).heap.size = w.heap.size + 2 := by simp
    have h := oneOf_any (P := fun k => w.heap.size < k) (some ⟨(w.alloc o).heap.size, 0, none⟩) 1 [[]] ((w.alloc o).alloc (.cells #[.string ⟨#[]⟩] 9)) (row_block (w.alloc o) (by rw [e1]; omega) 9 #[.string ⟨#[]⟩] 1) (by decide)
    rw [e2, e1] at h
    exact h.mono fun e w' ⟨h1, h2, h3⟩ => ⟨h1, h2.step (Stp.imp fun k hk => by rcases hk with hk | hk <;> omega), h3⟩
  go_enter Tryd.func40, Tryd.ntmps40
  go_wp2_with (go_at_call 37; refine (H37 _).mono ?_; rintro e w2 ⟨rfl, ho2, hb2⟩; refine Hid.out ?_)
  refine Lib.hid ?_
  have hA2 : At w.heap.size zero59 59 w2 := At.below (At.alloc (heap_alloc_new w _) _) hb2 (by omega)
  have hbw2 : Below w.heap.size w w2 := (((Below.refl _ _).alloc (Nat.le_refl _) _).alloc (by simp) _).trans (hb2.mono (by omega))
  obtain ⟨c0, c1, c2, c3, c4, c5, fz⟩ := z6 hA2
  obtain ⟨w3, hw3, hA3, hb3, hs3⟩ := store6 (a := .string s) (b := .slice ao n c) (c := .func (.func 59) #[] #[.pointer (some ⟨w.heap.size + 2, 0, none⟩)]) (d := .int .i64 0) (e := .int .i64 0) (f := .slice none 0 0) hA2 hbw2
  obtain ⟨d0, d1, d2, d3, d4, d5, _⟩ := z6 hA3
  have HO : Hid (OneAt _ _ _ _) := ho2
  clear ho2 hA2 hA3 hb2 hbw2
  go_wp2_with fail
  refine bodyPost_ret (v := .agg #[.string s, .slice ao n c, .func (.func 59) #[] #[.pointer (some ⟨w.heap.size + 2, 0, none⟩)], .int .i64 0, .int .i64 0, .slice none 0 0]) (by simp [results, Tryd.results40, go_sem, d0, d1, d2, d3, d4, d5]) rfl ⟨⟨_, rfl, ao, n, c, 59, #[.pointer (some ⟨w.heap.size + 2, 0, none⟩)], none, 0, 0, ?_, ?_⟩, hb3⟩
  · rw [← HS.out]; rfl
  · exact ⟨rfl, FRow.step H.out (fun k hk hl => ⟨.inl hk, hb3.block k hl⟩), TstAt.step (tst_one HO.out) (fun k hk _ => ⟨.inr (Nat.le_of_lt hk), hs3 k (by omega)⟩), rfl, rfl, [], row_nil _ _ _ _, rfl⟩
end Go.Proofs.YtmmkfpeckfmjeaaDoor
