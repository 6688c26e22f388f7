/-
  The contract of the document's wheel's call Go over this program, where the time is right.
-/
import Derived.Test.YtkgnaaocgejeiaaYd
namespace Go.Proofs.Ytkgnaaocgejeiaa
open Go Go.RowKit Go.Maps
theorem rgrow {q : Nat} {w wr w2 : World} {v : Value} {n : Nat} {xs : List Value} {o : Obj} (hF : Fr [q] w wr) (hO : wr.ownsRow w.heap.size 3 1 v n xs) (hg : (wr.alloc o).grownBy w2 v.ownBlock) : Fr [q] w w2 ∧ (∀ k, k < w.heap.size → w2.heap[k]? = wr.heap[k]?) ∧ wr.heap.size ≤ w2.heap.size := by
  have hs := hF.1.size
  have hs2 : wr.heap.size + 1 ≤ w2.heap.size := by have := hg.size; simpa using this
  have kk : ∀ k, k < w.heap.size → w2.heap[k]? = wr.heap[k]? := fun k hk => by
    refine (hg.block k (by simp; omega) (fun e => ?_)).trans (Below.heap_alloc _ _ _ (by omega))
    have := (World.ownsRow.lt hO k e.symm).1
    omega
  exact ⟨⟨hF.1.trans ⟨hg.os, hg.tape, hg.output, by omega, fun k hk => by omega⟩, fun k hk hS => (kk k hk).trans (hF.2 k hk hS)⟩, kk, by omega⟩
theorem RqAt.sub {q : Nat} {D D' : List Nat} {now : Int} {L : List (Int × Int)} {w : World} (h : RqAt q D now L w) (hs : ∀ k ∈ D, k ∈ D') : RqAt q D' now L w := by
  obtain ⟨ao, cap, h1, h2, h3, h4, h5⟩ := h.ex
  exact ⟨⟨ao, cap, h1, h2, h3, h4, fun ad ea => ⟨(h5 ad ea).1, hs _ (h5 ad ea).2.1, (h5 ad ea).2.2⟩⟩, hs _ h.qm⟩
theorem RqAt.least {q : Nat} {D : List Nat} {now : Int} {L : List (Int × Int)} {w : World} (h : RqAt q D now L w) : ∃ D', RqAt q D' now L w ∧ (∀ k ∈ D', k ∈ D) ∧ (∀ k ∈ D', k < w.heap.size) := by
  obtain ⟨ao, cap, h1, h2, h3, h4, h5⟩ := h.ex
  refine ⟨q :: ao.toList.map (·.block), ⟨⟨ao, cap, h1, h2, h3, h4, fun ad ea => ⟨(h5 ad ea).1, ?_, (h5 ad ea).2.2⟩⟩, List.mem_cons_self⟩, fun k hk => ?_, fun k hk => ?_⟩
  · subst ea
    simp
  · rcases List.mem_cons.1 hk with rfl | hk
    · exact h.qm
    · cases ao with
      | none => cases hk
      | some ad =>
        simp at hk
        subst hk
        exact (h5 ad rfl).2.1
  · rcases List.mem_cons.1 hk with rfl | hk
    · exact lt_of_heap h1
    · cases ao with
      | none => cases hk
      | some ad =>
        simp at hk
        subst hk
        exact (h5 ad rfl).2.2.2
set_option maxHeartbeats 4000000 in
set_option maxRecDepth 100000 in
theorem rgo_own (q : Nat) (D : List Nat) (now : Int) (L : List (Int × Int)) (z : Int) (w : World) (h : RqAt q D now L w) (hz : now ≤ z ∧ z ≤ 1099511627776) (hL : L.length ≤ 256) (hD : ∀ k ∈ D, k < w.heap.size) :
    Calls Try.prog 18 #[.pointer (some ⟨q, 0, none⟩), .int .i64 z] w fun e w' => RGoPost q D z L w e w' := by
  obtain ⟨i0, hi, hz0, hz1, hz2⟩ := info_parts info3
  have hql := h.lt
  have HW0 : Hid (RWay q D z L [] L w (.slice none 0 0) (w.setCell ⟨q, 1, none⟩ (.int .i64 z))) :=
    ⟨rfl, (fun q hq => by cases hq), rq_time h z, World.ownsRow_nil _ _ _ _, (Fr.refl [q] w).setCell 1 _ (List.mem_singleton.2 rfl)⟩
  obtain ⟨ao, cap, h1, _⟩ := h.ex
  have c1 := rq_c1 h1
  have f1 := rq_fz h1 1
  have n1 : ¬ z < now := by omega
  have n2 : ¬ 1099511627776 < z := by omega
  have HD : Hid (∀ k ∈ D, k < w.heap.size) := hD
  clear h h1 hz hD
  go_enter Try.func18, Try.ntmps18
  go_wp2_with fail
  go_loopw [6] (fun v0 wr => ∃ A R v, v = v0 ∧ RWay q D z L A R w v wr) (fun v _ => L.length - lenV v)
  case atStart => exact ⟨[], L, _, rfl, HW0.out⟩
  case round =>
    obtain ⟨A, R, v, rfl, hw⟩ := hrel
    have HWY : Hid (RWay q D z L A R w v wr) := hw
    obtain ⟨ao, cap, h1, h2, h3, h4, h5⟩ := hw.wh.ex
    have hqm := hw.wh.qm
    have hAl : A.length + R.length = L.length := by
      have := congrArg List.length hw.ap
      simpa using this
    have EA : Hid ((ids A).length = A.length) := List.length_map _
    have HVH : Hid (lenV v = A.length) := by
      rcases hw.ow.2 with ⟨e1, e2⟩ | ⟨p, cap, cur, e1, _⟩
      · rw [e1]; show 0 = _; rw [← EA.out, e2]
      · rw [e1]; exact EA.out
    cases R with
    | nil =>
      have HR : Hid (RGoPost q D z L w (.returned (.tuple #[v, .int .i64 0])) wr) := ⟨v, rfl, hw.ends (fun q R' e => by cases e)⟩
      have c0 := rq_c0 h1
      clear hw h1 h2 h3 h4 h5
      go_wp2_with fail
      go_ret2
      exact HR.out
    | cons p R =>
      obtain ⟨a, b⟩ := p
      obtain ⟨g, off, rfl, k1, k2⟩ := h2 0 _ rfl
      rw [Nat.zero_mul, Nat.add_zero] at k1
      have k3 : wr.cell? ⟨g, off + 1, none⟩ = some (.int .i64 b) := by simpa using k2
      obtain ⟨n, hn⟩ : ∃ n, R.length = n := ⟨_, rfl⟩
      rw [List.length_cons, hn] at h1 h3 hAl
      have c0 := rq_c0 h1
      have f0 := rq_fz h1 0
      have hgq := h5 _ rfl
      have n0 : (0 : Int) < ((n + 1 : Nat) : Int) := by omega
      by_cases hb : b ≤ z
      · obtain ⟨dp, hdp⟩ : ∃ dp, (if cap = 1 then (some ⟨g, off, none⟩ : Option Addr) else some ⟨g, off + 2, none⟩) = dp := ⟨_, rfl⟩
        have HDP : Hid _ := hdp
        have HGQ : Hid (g ∈ D ∧ g ≠ q ∧ g < w.heap.size) := ⟨hgq.2.1, hgq.2.2.1, HD.out g hgq.2.1⟩
        have H2 : Hid (RowD wr (some ⟨g, off, none⟩) ((a, b) :: R)) := h2
        have H1 : Hid (wr.heap[q]? = some (.cells #[.slice (some ⟨g, off, none⟩) (n + 1) cap, .int .i64 z] 29 (0, 0))) := h1
        have EN : Hid _ := hn
        have hsz := hw.fr.1.size
        have hA256 : A.length ≤ 255 := by omega
        have c3 : (1 : Int) ≤ ((n + 1 : Nat) : Int) := by omega
        have c4 : ((n + 1 : Nat) : Int) ≤ (cap : Int) := by omega
        have HQ : Hid (q ∈ D) := hqm
        have HCAP : Hid (n + 1 ≤ cap) := h3
        have HAL : Hid (A.length + (n + 1) = L.length) := hAl
        clear hw h1 h2 h4 h5 hn k2 hgq
        go_wp2_with (at_builtin; refine wpList_append_own _ rfl _ _ 38 rfl w.heap.size 3 i0 (.int .i64 0) 1 8 Try.underlying38 hi hz0 hz1 hz2 rfl (by decide) v (ids A).length (ints (ids A)) rfl (World.ownsRow.alloc HWY.out.ow _) ⟨wr.heap.size, 0, none⟩ 1 1 [.int .i64 a] rfl rfl (cell_one_new _ _ _) (ints_one [a]) (by rw [EA.out]; unfold maxLen; omega) (by rw [EA.out]; omega) (by simp; omega) ?_; intro v2 w2 ho2 hg2 _; have HG2 : Hid (Fr [q] w w2 ∧ (∀ k, k < w.heap.size → w2.heap[k]? = wr.heap[k]?) ∧ wr.heap.size ≤ w2.heap.size) := rgrow HWY.out.fr HWY.out.ow hg2; have h12 : w2.heap[q]? = some (.cells #[.slice (some ⟨g, off, none⟩) (n + 1) cap, .int .i64 z] 29 (0, 0)) := (HG2.out.2.1 q hql).trans H1.out; have d0 := rq_c0 h12; have e0 := rq_fz h12 0; have H12 : Hid _ := h12; have HO2 : Hid _ := ho2; clear ho2 hg2 h12)
        go_roundw
        case rel =>
          have hq3 := rq_cut H12.out (H2.out.keep fun ad e => HG2.out.2.1 _ (by cases e; exact HGQ.out.2.2)) EN.out HCAP.out ⟨HGQ.out.1, HGQ.out.2.1, Nat.lt_of_lt_of_le HGQ.out.2.2 HG2.out.1.1.size⟩ HQ.out HDP.out
          have hf3 : Fr [q] w2 (w2.setCell ⟨q, 0, none⟩ (.slice dp n (cap - 1))) := (Fr.refl [q] w2).setCell 0 _ (List.mem_singleton.2 rfl)
          refine ⟨A ++ [(a, b)], R, _, rfl, ⟨by rw [List.append_assoc]; exact HWY.out.ap, fun r hr => ?_, hq3, ?_, HG2.out.1.trans hf3⟩⟩
          · rcases List.mem_append.1 hr with hr | hr
            · exact HWY.out.le r hr
            · rw [List.mem_singleton.1 hr]; exact hb
          · have e1 : ids (A ++ [(a, b)]) = ids A ++ [a] := List.map_append
            have e2 : ints (ids A ++ [a]) = ints (ids A) ++ [.int .i64 a] := List.map_append
            rw [e1, e2, List.length_append]
            exact own_fr HO2.out hf3 (fun k hk => by rw [List.mem_singleton.1 hk]; exact hql)
        case measure =>
          have e2 : lenV v2 = A.length + 1 := by
            rcases HO2.out.2 with ⟨e1, e2⟩ | ⟨p, cap, cur, e1, _⟩
            · omega
            · rw [e1]; show (ids A).length + 1 = _; rw [EA.out]
          simp only [e2, HVH.out]
          have := HAL.out
          omega
      · have HR : Hid (RGoPost q D z L w (.returned (.tuple #[v, .int .i64 0])) wr) := ⟨v, rfl, hw.ends (fun q' R' e => by cases e; show z < b; omega)⟩
        clear hw h1 h2 h3 h4 h5 k2
        go_wp2_with fail
        go_ret2
        exact HR.out
theorem rgo_ok (q : Nat) (D : List Nat) (now : Int) (L : List (Int × Int)) (z : Int) (w : World) (h : RqAt q D now L w) (hz : now ≤ z ∧ z ≤ 1099511627776) (hL : L.length ≤ 256) :
    Calls Try.prog 18 #[.pointer (some ⟨q, 0, none⟩), .int .i64 z] w fun e w' => RGoPost q D z L w e w' := by
  obtain ⟨D', h1, h2, h3⟩ := h.least
  refine (rgo_own q D' now L z w h1 hz hL h3).mono fun e w' ⟨v, he, k1, k2, k3⟩ => ⟨v, he, k1.sub h2, k2, k3⟩
end Go.Proofs.Ytkgnaaocgejeiaa
