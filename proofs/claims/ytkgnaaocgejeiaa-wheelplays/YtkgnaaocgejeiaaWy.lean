/-
  The contract of (*Wheel).Go over this program.
-/
import Derived.Test.YtkgnaaocgejeiaaWx
namespace Go.Proofs.Ytkgnaaocgejeiaa
open Go Go.RowKit Go.Maps
/-- One number taken off a wheel's beginning. -/
theorem wtake_any (g : Nat) (S : List Nat) (m now : Int) (q : Int × Int) (R : List (Int × Int)) (w : World) (h : WBt g S m now (q :: R) w) :
    Calls Try.prog 26 #[.pointer (some ⟨g, 1, none⟩), .int .i64 0] w fun e w' => e = .returned (.int .i64 q.1) ∧ WBt g S m now R w' ∧ Fr S w w' := by
  rcases h.mem with ⟨_, h2, _⟩ | ⟨p, cap, b, l, h1, h2, h3, rfl⟩
  · cases h2
  · have hf := heap_first h.ok h2 h3
    have hl : l.length = (q :: R).length := by rw [h2.length_eq]; simp [ids]
    have hL := h.ok.ln
    have hq1 : q.1 ∈ ids (q :: R) := List.mem_cons_self
    have := take_any g p cap b (q :: R).length now l (tOf (q :: R)) 0 w h1 (by rw [hl]; simp) (by omega) h3 (h2.nodup_iff.2 h.ok.nd) (by rw [hf, tOf_mem h.ok.nd List.mem_cons_self]; rfl)
    rw [hf] at this
    refine this.mono fun e w' ⟨he, hk⟩ => ⟨he, ?_⟩
    have hx := taken h.ok h2 hq1 hk
    rw [del_head h.ok.nd] at hx
    exact hx
def lenV : Value → Nat
  | .slice _ n _ => n
  | _ => 0
/-- What Go leaves: the numbers that it answers lie in a row of its own. -/
def GoRes (g : Nat) (S : List Nat) (now : Int) (L : List (Int × Int)) (out : List Int) (w : World) (v : Value) (w' : World) : Prop := WAt g S now L w' ∧ w'.ownsRow w.heap.size 3 1 v out.length (ints out) ∧ Fr S w w'
/-- .. on its way. -/
structure GoWay (g : Nat) (S : List Nat) (m at_ : Int) (L A R : List (Int × Int)) (w : World) (v : Value) (w' : World) : Prop where
  ap : A ++ R = L
  le : ∀ q ∈ A, q.2 ≤ at_
  wh : WBt g S m at_ R w'
  ow : w'.ownsRow w.heap.size 3 1 v (ids A).length (ints (ids A))
  fr : Fr S w w'
theorem out_cut {at_ : Int} {A R : List (Int × Int)} (hA : ∀ q ∈ A, q.2 ≤ at_) (hR : ∀ q R', R = q :: R' → at_ < q.2) : outN at_ (A ++ R) = A ∧ restN at_ (A ++ R) = R := by
  induction A with
  | nil =>
    cases R with
    | nil => exact ⟨rfl, rfl⟩
    | cons q R =>
      have := hR q R rfl
      have e : ¬ q.2 ≤ at_ := by omega
      constructor <;> simp [outN, restN, e]
  | cons q A ih =>
    have e := hA q List.mem_cons_self
    have ih' := ih (fun r hr => hA r (List.mem_cons_of_mem _ hr))
    unfold outN restN at ih' ⊢
    rw [List.cons_append, List.takeWhile_cons, List.dropWhile_cons, if_pos (by simp [e]), if_pos (by simp [e]), ih'.1, ih'.2]
    exact ⟨rfl, rfl⟩
theorem GoWay.ends {g : Nat} {S : List Nat} {m at_ : Int} {L A R : List (Int × Int)} {w w' : World} {v : Value} (h : GoWay g S m at_ L A R w v w') (hok : Ok m L) (hr : m ≤ at_ ∧ at_ ≤ 1099511627776) (hR : ∀ q R', R = q :: R' → at_ < q.2) : GoRes g S at_ (restN at_ L) (ids (outN at_ L)) w v w' := by
  have e := out_cut h.le hR
  rw [h.ap] at e
  rw [e.1, e.2]
  have hk := hok.rest hr
  rw [e.2] at hk
  exact ⟨⟨hk, h.wh.mem⟩, h.ow, h.fr⟩
theorem GoWay.steps {g : Nat} {S : List Nat} {m at_ : Int} {L A R : List (Int × Int)} {q : Int × Int} {w w1 w2 : World} {v v' : Value} (h : GoWay g S m at_ L A (q :: R) w v w1) (hq : q.2 ≤ at_) (hwh : WBt g S m at_ R w2) (hw : w2.ownsRow w.heap.size 3 1 v' ((ids A).length + 1) (ints (ids A) ++ [.int .i64 q.1])) (hf : Fr S w w2) :
    GoWay g S m at_ L (A ++ [q]) R w v' w2 := by
  refine ⟨by rw [List.append_assoc]; exact h.ap, fun r hr => ?_, hwh, ?_, hf⟩
  · rcases List.mem_append.1 hr with hr | hr
    · exact h.le r hr
    · rw [List.mem_singleton.1 hr]; exact hq
  · have e1 : ids (A ++ [q]) = ids A ++ [q.1] := List.map_append
    have e2 : ints (ids A ++ [q.1]) = ints (ids A) ++ [.int .i64 q.1] := List.map_append
    rw [e1, e2, List.length_append]
    exact hw
theorem WBt.time {g : Nat} {S : List Nat} {m now : Int} {L : List (Int × Int)} {w : World} (h : WBt g S m now L w) (z : Int) : WBt g S m z L (w.setCell ⟨g, 0, none⟩ (.int .i64 z)) := by
  refine ⟨h.ok, ?_⟩
  rcases h.mem with ⟨h1, h2, h3⟩ | ⟨p, cap, b, l, h1, h2, h3, h4⟩
  · exact .inl ⟨h1.set0 z, h2, h3⟩
  · obtain ⟨n1, n2, n3⟩ := h1.ne
    exact .inr ⟨p, cap, b, l, ⟨h1.hd.set0 z, h1.rw.keep (Below.heap_setCell _ _ _ _ n1.symm), h1.mp.keep (Below.heap_setCell _ _ _ _ n2.symm), h1.nn⟩, h2, h3, h4⟩
theorem own_fr {B : Nat} {S : List Nat} {v : Value} {n : Nat} {xs : List Value} {w w' : World} (h : w.ownsRow B 3 1 v n xs) (hf : Fr S w w') (hS : ∀ k ∈ S, k < B) : w'.ownsRow B 3 1 v n xs := by
  refine ⟨h.1, ?_⟩
  rcases h.2 with h2 | ⟨p, cap, cur, e1, h3, hp, r⟩
  · exact .inl h2
  · exact .inr ⟨p, cap, cur, e1, h3, (hf.2 p (lt_of_heap hp) (fun e => by have := hS p e; omega)).trans hp, r⟩
theorem go_grow {g : Nat} {S : List Nat} {m at_ : Int} {R : List (Int × Int)} {w w1 w2 : World} {v : Value} {n : Nat} {xs : List Value} {o : Obj} (hW : WBt g S m at_ R w1) (hF : Fr S w w1) (hO : w1.ownsRow w.heap.size 3 1 v n xs) (hS : ∀ k ∈ S, k < w.heap.size) (hg : (w1.alloc o).grownBy w2 v.ownBlock) : WBt g S m at_ R w2 ∧ Fr S w w2 := by
  have hs := hF.1.size
  have kk : ∀ k, k < w.heap.size → w2.heap[k]? = w1.heap[k]? := fun k hk => by
    refine (hg.block k (by simp; omega) (fun e => ?_)).trans (Below.heap_alloc _ _ _ (by omega))
    have := (World.ownsRow.lt hO k e.symm).1
    omega
  refine ⟨hW.keep fun k hk => kk k (hS k hk), hF.1.trans ⟨hg.os, hg.tape, hg.output, ?_, fun k hk => by omega⟩, fun k hk hS => (kk k hk).trans (hF.2 k hk hS)⟩
  have := hg.size
  simp at this
  omega
set_option maxHeartbeats 400000 in
theorem wgo_nil (z : Int) (w : World) : Calls Try.prog 17 #[.pointer none, .int .i64 z] w fun e w' => e = .returned (.tuple #[.slice none 0 0, .int .i64 1]) ∧ w' = w := by
  go_enter Try.func17, Try.ntmps17
  go_wp2_with fail
  go_ret2
  exact ⟨rfl, rfl⟩
set_option maxHeartbeats 1000000 in
theorem wgo_bad (g : Nat) (S : List Nat) (now : Int) (L : List (Int × Int)) (z : Int) (w : World) (h : WAt g S now L w) (hz : z < now ∨ 1099511627776 < z) :
    Calls Try.prog 17 #[.pointer (some ⟨g, 0, none⟩), .int .i64 z] w fun e w' => e = .returned (.tuple #[.slice none 0 0, .int .i64 10]) ∧ w' = w := by
  obtain ⟨ao, cap, mo, hd⟩ := h.head
  have c0 := hd.c0
  clear h hd
  by_cases e : z < now
  · clear hz
    go_enter Try.func17, Try.ntmps17
    go_wp2_with fail
    go_ret2
    exact ⟨rfl, rfl⟩
  · have e3 : 1099511627776 < z := by omega
    clear hz
    go_enter Try.func17, Try.ntmps17
    go_wp2_with fail
    go_ret2
    exact ⟨rfl, rfl⟩
/-- What Go answers where the time is right. -/
def GoPost (g : Nat) (S : List Nat) (at_ : Int) (L : List (Int × Int)) (w : World) (e : Ending) (w' : World) : Prop := ∃ v, e = .returned (.tuple #[v, .int .i64 0]) ∧ GoRes g S at_ (restN at_ L) (ids (outN at_ L)) w v w'
set_option maxHeartbeats 2000000 in
theorem wgo_ok (g : Nat) (S : List Nat) (now : Int) (L : List (Int × Int)) (z : Int) (w : World) (h : WAt g S now L w) (hz : now ≤ z ∧ z ≤ 1099511627776) :
    Calls Try.prog 17 #[.pointer (some ⟨g, 0, none⟩), .int .i64 z] w fun e w' => GoPost g S z L w e w' := by
  obtain ⟨ao, cap, mo, hd⟩ := h.head
  have c0 := hd.c0
  have f0 := hd.fz 0
  have n1 : ¬ z < now := by omega
  have n2 : ¬ 1099511627776 < z := by omega
  have HOK : Hid (Ok now L) := h.ok
  have HZ : Hid (now ≤ z ∧ z ≤ 1099511627776) := hz
  have HLT : Hid (∀ k ∈ S, k < w.heap.size) := h.lt
  have hL := h.ok.ln
  have HW0 : Hid (GoWay g S now z L [] L w (.slice none 0 0) (w.setCell ⟨g, 0, none⟩ (.int .i64 z))) :=
    ⟨rfl, (fun q hq => by cases hq), h.time z, World.ownsRow_nil _ _ _ _, (Fr.refl S w).setCell 0 _ h.gm⟩
  have HN := wnext_any g S now z L _ HW0.out.wh
  obtain ⟨i0, hi, hz0, hz1, hz2⟩ := info_parts info3
  clear h hd hz
  go_enter Try.func17, Try.ntmps17
  go_wp2_with (go_at_call 20; refine HN.mono ?_; rintro e w1 ⟨rfl, rfl⟩)
  go_loopw [6, 7, 8] (fun v0 a d wr => ∃ A R v, v = v0 ∧ GoWay g S now z L A R w v wr ∧ a = .int .i64 (nxT R) ∧ d = .bool (!R.isEmpty)) (fun v _ _ _ => L.length - lenV v)
  case atStart => exact ⟨[], L, _, rfl, HW0.out, rfl, rfl⟩
  case round =>
    obtain ⟨A, R, v, rfl, hw, ha, hd⟩ := hrel
    cases R with
    | nil =>
      change _ = Value.int .i64 0 at ha
      change _ = Value.bool false at hd
      subst ha hd
      have HR : Hid (GoRes g S z (restN z L) (ids (outN z L)) w v wr) := hw.ends HOK.out HZ.out (fun q R' e => by cases e)
      clear hw HN
      go_wp2_with fail
      go_ret2
      exact ⟨v, rfl, HR.out⟩
    | cons q R =>
      change _ = Value.int .i64 q.2 at ha
      change _ = Value.bool true at hd
      subst ha hd
      by_cases hq : q.2 ≤ z
      · have HT := wtake_any g S now z q R wr hw.wh
        have HWY : Hid (GoWay g S now z L A (q :: R) w v wr) := hw
        have HNX := fun W hW => wnext_any g S now z R W hW
        have hAl : A.length + (R.length + 1) = L.length := by
          have := congrArg List.length hw.ap
          simpa using this
        have hsz := hw.fr.1.size
        have EA : Hid ((ids A).length = A.length) := List.length_map _
        have HQ : Hid (q.2 ≤ z) := hq
        have HV : lenV v = A.length := by
          rcases hw.ow.2 with ⟨e1, e2⟩ | ⟨p, cap, cur, e1, _⟩
          · rw [e1]; show 0 = _; rw [← EA.out, e2]
          · rw [e1]; exact EA.out
        have HVH : Hid _ := HV
        obtain ⟨x, hx⟩ : ∃ x, q.1 = x := ⟨_, rfl⟩
        have EX : Hid _ := hx
        rw [hx] at HT
        obtain ⟨y, hy⟩ : ∃ y, q.2 = y := ⟨_, rfl⟩
        rw [hy] at hq ⊢
        clear hw hx hy HN HV
        go_wp2_with (first
          | (go_at_call 26; refine HT.mono ?_; rintro e w1 ⟨rfl, hw1, hf1⟩; have HW1 : Hid _ := hw1; have HF1 : Hid (Fr S w w1) := Fr.trans HWY.out.fr hf1; have HO1 : Hid _ := own_fr HWY.out.ow hf1 HLT.out; have hs1 := HF1.out.1.size; clear hw1 hf1)
          | (at_builtin; refine wpList_append_own _ rfl _ _ 38 rfl w.heap.size 3 i0 (.int .i64 0) 1 8 Try.underlying38 hi hz0 hz1 hz2 rfl (by decide) v (ids A).length (ints (ids A)) rfl (World.ownsRow.alloc HO1.out _) ⟨w1.heap.size, 0, none⟩ 1 1 [.int .i64 x] rfl rfl (cell_one_new _ _ _) (ints_one [x]) (by rw [EA.out]; unfold maxLen; omega) (by rw [EA.out]; omega) (by simp; omega) ?_; intro v2 w2 ho2 hg2 hn2; have HO2 : Hid _ := ho2; have HG2 : Hid _ := hg2; have HB2 : Hid _ := go_grow HW1.out HF1.out HO1.out HLT.out hg2; clear ho2 hg2 hn2)
          | (go_at_call 20; refine (HNX _ HB2.out.1).mono ?_; rintro e w ⟨rfl, rfl⟩))
        go_roundw
        case rel => exact ⟨A ++ [q], R, _, rfl, GoWay.steps HWY.out HQ.out HB2.out.1 (by rw [EX.out]; exact HO2.out) HB2.out.2, rfl, rfl⟩
        case measure =>
          have e2 : lenV v2 = A.length + 1 := by
            rcases HO2.out.2 with ⟨e1, e2⟩ | ⟨p, cap, cur, e1, _⟩
            · omega
            · rw [e1]; show (ids A).length + 1 = _; rw [EA.out]
          simp only [e2, HVH.out]
          omega
      · have HR : Hid (GoRes g S z (restN z L) (ids (outN z L)) w v wr) := hw.ends HOK.out HZ.out (fun q' R' e => by cases e; omega)
        obtain ⟨y, hy⟩ : ∃ y, q.2 = y := ⟨_, rfl⟩
        rw [hy] at hq ⊢
        clear hw HN hy
        go_wp2_with fail
        go_ret2
        exact ⟨v, rfl, HR.out⟩
end Go.Proofs.Ytkgnaaocgejeiaa
