/-
  The contract of the document's wheel's call Go over this program.
-/
import Derived.Test.YtkgnaaocgejeiaaYb
namespace Go.Proofs.Ytkgnaaocgejeiaa
open Go Go.RowKit Go.Maps
set_option maxHeartbeats 400000 in
theorem rgo_bad (q : Nat) (D : List Nat) (now : Int) (L : List (Int × Int)) (z : Int) (w : World) (h : RqAt q D now L w) (hv : z < now ∨ 1099511627776 < z) :
    Calls Try.prog 18 #[.pointer (some ⟨q, 0, none⟩), .int .i64 z] w fun e w' => e = .returned (.tuple #[.slice none 0 0, .int .i64 10]) ∧ w' = w := by
  obtain ⟨ao, cap, h1, _⟩ := h.ex
  have c1 := rq_c1 h1
  clear h h1
  by_cases e : z < now
  · clear hv
    go_enter Try.func18, Try.ntmps18
    go_wp2_with fail
    go_ret2
    exact ⟨rfl, rfl⟩
  · have e2 : 1099511627776 < z := by omega
    clear hv
    go_enter Try.func18, Try.ntmps18
    go_wp2_with fail
    go_ret2
    exact ⟨rfl, rfl⟩
/-- What Go of the document's leaves: the numbers lie in a row of its own. -/
def RGo (q : Nat) (D : List Nat) (now : Int) (L : List (Int × Int)) (out : List Int) (w : World) (v : Value) (w' : World) : Prop := RqAt q D now L w' ∧ w'.ownsRow w.heap.size 3 1 v out.length (ints out) ∧ Fr [q] w w'
def RGoPost (q : Nat) (D : List Nat) (at_ : Int) (L : List (Int × Int)) (w : World) (e : Ending) (w' : World) : Prop := ∃ v, e = .returned (.tuple #[v, .int .i64 0]) ∧ RGo q D at_ (restN at_ L) (ids (outN at_ L)) w v w'
/-- .. on its way. -/
structure RWay (q : Nat) (D : List Nat) (at_ : Int) (L A R : List (Int × Int)) (w : World) (v : Value) (w' : World) : Prop where
  ap : A ++ R = L
  le : ∀ q ∈ A, q.2 ≤ at_
  wh : RqAt q D at_ R w'
  ow : w'.ownsRow w.heap.size 3 1 v (ids A).length (ints (ids A))
  fr : Fr [q] w w'
theorem rq_time {q : Nat} {D : List Nat} {now : Int} {L : List (Int × Int)} {w : World} (h : RqAt q D now L w) (z : Int) : RqAt q D z L (w.setCell ⟨q, 1, none⟩ (.int .i64 z)) := by
  obtain ⟨ao, cap, h1, h2, h3, h4, h5⟩ := h.ex
  refine ⟨⟨ao, cap, heap_set h1 1 _, h2.keep fun ad ea => Below.heap_setCell _ _ _ _ (h5 ad ea).2.2.1, h3, h4, fun ad ea => ⟨(h5 ad ea).1, (h5 ad ea).2.1, (h5 ad ea).2.2.1, ?_⟩⟩, h.qm⟩
  have := (h5 ad ea).2.2.2
  simpa [World.setCell] using this
/-- The first is cut off. -/
theorem rq_cut {q : Nat} {D : List Nat} {now : Int} {p : Int × Int} {R : List (Int × Int)} {g off cap n : Nat} {dp : Option Addr} {w : World} (h1 : w.heap[q]? = some (.cells #[.slice (some ⟨g, off, none⟩) (n + 1) cap, .int .i64 now] 29 (0, 0))) (h2 : RowD w (some ⟨g, off, none⟩) (p :: R)) (hn : R.length = n) (h3 : n + 1 ≤ cap) (h5 : g ∈ D ∧ g ≠ q ∧ g < w.heap.size) (hq : q ∈ D) (hdp : (if cap = 1 then some (⟨g, off, none⟩ : Addr) else some ⟨g, off + 2, none⟩) = dp) :
    RqAt q D now R (w.setCell ⟨q, 0, none⟩ (.slice dp n (cap - 1))) := by
  have hk : ∀ ad, dp = some ad → ad.spot = none ∧ ad.block = g := fun ad e => by
    rw [e] at hdp
    split at hdp <;> cases hdp <;> exact ⟨rfl, rfl⟩
  have hr := RowD.drop (k := 1) (cap := cap) h2 (by simp; omega) (by simpa using hdp)
  subst hn
  refine ⟨⟨dp, cap - 1, heap_set h1 0 _, hr.keep fun ad ea => Below.heap_setCell _ _ _ _ (show ad.block ≠ q by rw [(hk ad ea).2]; exact h5.2.1), by omega, fun e => ?_, fun ad ea => ⟨(hk ad ea).1, by rw [(hk ad ea).2]; exact h5.1, by rw [(hk ad ea).2]; exact h5.2.1, ?_⟩⟩, hq⟩
  · rw [e] at hdp
    split at hdp <;> cases hdp
  · rw [(hk ad ea).2]
    simpa [World.setCell] using h5.2.2
theorem RWay.ends {q : Nat} {D : List Nat} {at_ : Int} {L A R : List (Int × Int)} {w w' : World} {v : Value} (h : RWay q D at_ L A R w v w') (hR : ∀ q R', R = q :: R' → at_ < q.2) : RGo q D at_ (restN at_ L) (ids (outN at_ L)) w v w' := by
  have e := out_cut h.le hR
  rw [h.ap] at e
  rw [e.1, e.2]
  exact ⟨h.wh, h.ow, h.fr⟩
end Go.Proofs.Ytkgnaaocgejeiaa
