/-
  The document's wheel in memory, and the contract of its call at over this program.
-/
import Derived.Test.YtkgnaaocgejeiaaZc
namespace Go.Proofs.Ytkgnaaocgejeiaa
open Go Go.RowKit Go.Maps
/-- The cells of numbers with their times. -/
def dues : List (Int × Int) → List Value
  | [] => []
  | p :: L => .int .i64 p.1 :: .int .i64 p.2 :: dues L
theorem dues_len (L : List (Int × Int)) : (dues L).length = L.length * 2 := by
  induction L with
  | nil => rfl
  | cons p L ih => simp only [dues, List.length_cons, ih]; omega
theorem dues_append (A B : List (Int × Int)) : dues (A ++ B) = dues A ++ dues B := by
  induction A with
  | nil => rfl
  | cons p A ih => simp only [List.cons_append, dues, ih]
theorem dues_one (L : List (Int × Int)) : ∀ u ∈ dues L, u.oneCell' = true := by
  induction L with
  | nil => intro u hu; cases hu
  | cons p L ih =>
    intro u hu
    simp only [dues, List.mem_cons] at hu
    rcases hu with rfl | rfl | hu
    · rfl
    · rfl
    · exact ih u hu
theorem dues_get {L : List (Int × Int)} {i : Nat} {p : Int × Int} (h : L[i]? = some p) : (dues L)[i * 2]? = some (.int .i64 p.1) ∧ (dues L)[i * 2 + 1]? = some (.int .i64 p.2) := by
  induction L generalizing i with
  | nil => simp at h
  | cons r L ih =>
    cases i with
    | zero =>
      simp at h
      subst h
      exact ⟨rfl, rfl⟩
    | succ i =>
      have := ih (by simpa using h)
      have e : (i + 1) * 2 = i * 2 + 1 + 1 := by omega
      rw [e]
      exact this
theorem dues_inv {L : List (Int × Int)} {j : Nat} {u : Value} (h : (dues L)[j]? = some u) : ∃ i p, L[i]? = some p ∧ ((j = i * 2 ∧ u = .int .i64 p.1) ∨ (j = i * 2 + 1 ∧ u = .int .i64 p.2)) := by
  have hj := (List.getElem?_eq_some_iff.1 h).1
  rw [dues_len] at hj
  obtain ⟨p, hp⟩ : ∃ p, L[j / 2]? = some p := ⟨_, List.getElem?_eq_getElem (by omega)⟩
  have := dues_get hp
  refine ⟨j / 2, p, hp, ?_⟩
  have hc : j = j / 2 * 2 ∨ j = j / 2 * 2 + 1 := by omega
  rcases hc with hc | hc
  · rw [← hc, h] at this
    exact .inl ⟨hc, Option.some.inj this.1⟩
  · rw [← hc, h] at this
    exact .inr ⟨hc, Option.some.inj this.2⟩
/-- A row of them, as it lies. -/
def RowD (w : World) (ao : Option Addr) (L : List (Int × Int)) : Prop :=
  ∀ i p, L[i]? = some p → ∃ g off, ao = some ⟨g, off, none⟩ ∧ w.cell? ⟨g, off + i * 2, none⟩ = some (.int .i64 p.1) ∧ w.cell? ⟨g, off + i * 2 + 1, none⟩ = some (.int .i64 p.2)
theorem flat_add (g off j : Nat) : (⟨g, off, none⟩ : Addr).add j = ⟨g, off + j, none⟩ := by
  unfold Addr.add
  split
  · subst_vars; rfl
  · rfl
theorem RowD.cells {w : World} {ao : Option Addr} {L : List (Int × Int)} (h : RowD w ao L) : ∀ (j : Nat) (u : Value), (dues L)[j]? = some u → ∃ ad, ao = some ad ∧ w.cell? (ad.add j) = some u := by
  intro j u hu
  obtain ⟨i, p, hp, hc⟩ := dues_inv hu
  obtain ⟨g, off, rfl, k1, k2⟩ := h i p hp
  refine ⟨_, rfl, ?_⟩
  rw [flat_add]
  rcases hc with ⟨rfl, rfl⟩ | ⟨rfl, rfl⟩
  · exact k1
  · exact k2
theorem RowD.take {w : World} {ao : Option Addr} {L : List (Int × Int)} (h : RowD w ao L) (k : Nat) : RowD w ao (L.take k) := fun i p hp => h i p (by rw [List.getElem?_take] at hp; split at hp; exact hp; cases hp)
theorem own_rowd {B n : Nat} {v : Value} {L : List (Int × Int)} {w : World} (h : w.ownsRow B 45 2 v n (dues L)) (e : L.length = n) : ∃ ao cap, v = .slice ao n cap ∧ RowD w ao L ∧ n ≤ cap ∧ (ao = none → n = 0 ∧ cap = 0) ∧ (∀ ad, ao = some ad → ad.spot = none ∧ B ≤ ad.block ∧ ad.block < w.heap.size) := by
  subst e
  rcases h.2 with ⟨e1, e2⟩ | ⟨g, cap, cur, e1, h0, hg, h4, _⟩
  · have e3 : L = [] := List.length_eq_zero_iff.1 e2
    subst e3
    exact ⟨none, 0, e1, fun i s hs => by simp at hs, Nat.le_refl _, fun _ => ⟨rfl, rfl⟩, fun ad e => by cases e⟩
  · subst e1
    refine ⟨_, cap, rfl, fun i p hp => ?_, h4, fun e => by (cases e), fun ad e => ?_⟩
    · have hl := (List.getElem?_eq_some_iff.1 hp).1
      refine ⟨g, 0, rfl, ?_, ?_⟩
      · rw [Nat.zero_add, World.ownsRow.cellAt h (i * 2) (by omega)]
        exact (dues_get hp).1
      · rw [Nat.zero_add, World.ownsRow.cellAt h (i * 2 + 1) (by omega)]
        exact (dues_get hp).2
    · cases e
      exact ⟨rfl, h0, lt_of_heap hg⟩
/-- The document's wheel in memory: its block, all its blocks, its time, its numbers in order. -/
structure RqAt (q : Nat) (D : List Nat) (now : Int) (L : List (Int × Int)) (w : World) : Prop where
  ex : ∃ ao cap, w.heap[q]? = some (.cells #[.slice ao L.length cap, .int .i64 now] 29 (0, 0)) ∧ RowD w ao L ∧ L.length ≤ cap ∧ (ao = none → L.length = 0 ∧ cap = 0) ∧ (∀ ad, ao = some ad → ad.spot = none ∧ ad.block ∈ D ∧ ad.block ≠ q ∧ ad.block < w.heap.size)
  qm : q ∈ D
theorem RowD.keep {w w' : World} {ao : Option Addr} {L : List (Int × Int)} (h : RowD w ao L) (e : ∀ ad, ao = some ad → w'.heap[ad.block]? = w.heap[ad.block]?) : RowD w' ao L := fun i p hp => by
  obtain ⟨g, off, rfl, k1, k2⟩ := h i p hp
  have := e _ rfl
  refine ⟨g, off, rfl, ?_, ?_⟩
  · rw [World.cell?_of_block (show w'.heap[(⟨g, off + i * 2, none⟩ : Addr).block]? = w.heap[(⟨g, off + i * 2, none⟩ : Addr).block]? from this)]
    exact k1
  · rw [World.cell?_of_block (show w'.heap[(⟨g, off + i * 2 + 1, none⟩ : Addr).block]? = w.heap[(⟨g, off + i * 2 + 1, none⟩ : Addr).block]? from this)]
    exact k2
theorem RqAt.keep {q : Nat} {D : List Nat} {now : Int} {L : List (Int × Int)} {w w' : World} (h : RqAt q D now L w) (e : ∀ k ∈ D, w'.heap[k]? = w.heap[k]?) (hs : w.heap.size ≤ w'.heap.size) : RqAt q D now L w' := by
  obtain ⟨ao, cap, h1, h2, h3, h4, h5⟩ := h.ex
  exact ⟨⟨ao, cap, (e q h.qm).trans h1, h2.keep fun ad ea => e _ (h5 ad ea).2.1, h3, h4, fun ad ea => ⟨(h5 ad ea).1, (h5 ad ea).2.1, (h5 ad ea).2.2.1, Nat.lt_of_lt_of_le (h5 ad ea).2.2.2 hs⟩⟩, h.qm⟩
theorem RqAt.lt {q : Nat} {D : List Nat} {now : Int} {L : List (Int × Int)} {w : World} (h : RqAt q D now L w) : q < w.heap.size := by
  obtain ⟨ao, cap, h1, _⟩ := h.ex
  exact lt_of_heap h1
theorem rq_c0 {q : Nat} {v : Value} {now : Int} {w : World} (h : w.heap[q]? = some (.cells #[v, .int .i64 now] 29 (0, 0))) : w.cell? ⟨q, 0, none⟩ = some v := by simp [World.cell?, h]
theorem rq_c1 {q : Nat} {v : Value} {now : Int} {w : World} (h : w.heap[q]? = some (.cells #[v, .int .i64 now] 29 (0, 0))) : w.cell? ⟨q, 1, none⟩ = some (.int .i64 now) := by simp [World.cell?, h]
theorem rq_fz {q : Nat} {v : Value} {now : Int} {w : World} (h : w.heap[q]? = some (.cells #[v, .int .i64 now] 29 (0, 0))) (o : Nat) : w.frozen? ⟨q, o, none⟩ = false := by simp [World.frozen?, h]
set_option maxHeartbeats 1000000 in
theorem rat_yes (q : Nat) (D : List Nat) (now : Int) (L : List (Int × Int)) (z : Int) (k : Nat) (w : World) (h : RqAt q D now L w) (hn : (ids L).Nodup) (hk : (ids L)[k]? = some z) (hL : L.length ≤ 1000) :
    Calls Try.prog 25 #[.pointer (some ⟨q, 0, none⟩), .int .i64 z] w fun e w' => e = .returned (.int .i64 (k : Int)) ∧ w' = w := by
  obtain ⟨ao, cap, h1, h2, _⟩ := h.ex
  have c0 := rq_c0 h1
  have HR : Hid (RowD w ao L) := h2
  have hkl : k < L.length := by have := (List.getElem?_eq_some_iff.1 hk).1; rwa [ids_len] at this
  have HN : Hid (∀ (j : Nat) (p : Int × Int), j < k → L[j]? = some p → p.1 ≠ z) := fun j p hj hp e => by
    have h3 : (ids L)[j]? = some z := by unfold ids; rw [List.getElem?_map, hp, ← e]; rfl
    have hjl := (List.getElem?_eq_some_iff.1 h3).1
    have := (List.getElem_inj hn (i := j) (j := k) (h₀ := hjl) (h₁ := (List.getElem?_eq_some_iff.1 hk).1)).1 (by rw [(List.getElem?_eq_some_iff.1 h3).2, (List.getElem?_eq_some_iff.1 hk).2])
    omega
  have HK : Hid (∀ p, L[k]? = some p → p.1 = z) := fun p hp => by
    unfold ids at hk
    rw [List.getElem?_map, hp] at hk
    exact Option.some.inj hk
  obtain ⟨n, hn'⟩ : ∃ n, L.length = n := ⟨_, rfl⟩
  have EN : Hid _ := hn'
  rw [hn'] at c0 hkl hL
  clear h h1 h2 hn hk hn'
  go_enter Try.func25, Try.ntmps25
  go_wp2_with fail
  go_loopw [5] (fun iv wr => ∃ j : Nat, j ≤ k ∧ iv = .int .i64 (j : Int) ∧ wr = w) (fun iv _ => k - (intOf iv).toNat)
  case atStart => exact ⟨0, Nat.zero_le _, rfl, rfl⟩
  case round =>
    obtain ⟨j, hj, rfl, rfl⟩ := hrel
    obtain ⟨p, hp⟩ : ∃ p, L[j]? = some p := ⟨_, List.getElem?_eq_getElem (by rw [EN.out]; omega)⟩
    obtain ⟨g, off, rfl, k1, k2⟩ := HR.out j p hp
    have j1 : (j : Int) < (n : Int) := by omega
    have j0 : (0 : Int) ≤ (j : Int) := by omega
    by_cases hlt : j < k
    · have hne := HN.out j p hlt hp
      have hne2 : (p.1 == z) = false := by simp [hne]
      clear hp
      go_wp2_with fail
      go_roundw
      case rel => exact ⟨j + 1, by omega, by go_num, trivial⟩
      case measure => simp [intOf]; omega
    · obtain rfl : j = k := by omega
      have he := HK.out p hp
      rw [he] at k1
      clear hp
      go_wp2_with fail
      go_ret
      exact ⟨rfl, rfl⟩
set_option maxHeartbeats 1000000 in
theorem rat_no (q : Nat) (D : List Nat) (now : Int) (L : List (Int × Int)) (z : Int) (w : World) (h : RqAt q D now L w) (hk : z ∉ ids L) (hL : L.length ≤ 1000) :
    Calls Try.prog 25 #[.pointer (some ⟨q, 0, none⟩), .int .i64 z] w fun e w' => e = .returned (.int .i64 (-1)) ∧ w' = w := by
  obtain ⟨ao, cap, h1, h2, _⟩ := h.ex
  have c0 := rq_c0 h1
  have HR : Hid (RowD w ao L) := h2
  have HN : Hid (∀ (j : Nat) (p : Int × Int), L[j]? = some p → p.1 ≠ z) := fun j p hp e => hk (List.mem_map.2 ⟨p, List.mem_of_getElem? hp, e⟩)
  obtain ⟨n, hn'⟩ : ∃ n, L.length = n := ⟨_, rfl⟩
  have EN : Hid _ := hn'
  rw [hn'] at c0 hL
  clear h h1 h2 hk hn'
  go_enter Try.func25, Try.ntmps25
  go_wp2_with fail
  go_loopw [5] (fun iv wr => ∃ j : Nat, j ≤ n ∧ iv = .int .i64 (j : Int) ∧ wr = w) (fun iv _ => n - (intOf iv).toNat)
  case atStart => exact ⟨0, Nat.zero_le _, rfl, rfl⟩
  case round =>
    obtain ⟨j, hj, rfl, rfl⟩ := hrel
    by_cases hlt : j < n
    · obtain ⟨p, hp⟩ : ∃ p, L[j]? = some p := ⟨_, List.getElem?_eq_getElem (by rw [EN.out]; omega)⟩
      obtain ⟨g, off, rfl, k1, k2⟩ := HR.out j p hp
      have j1 : (j : Int) < (n : Int) := by omega
      have j0 : (0 : Int) ≤ (j : Int) := by omega
      have hne := HN.out j p hp
      have hne2 : (p.1 == z) = false := by simp [hne]
      clear hp
      go_wp2_with fail
      go_roundw
      case rel => exact ⟨j + 1, by omega, by go_num, trivial⟩
      case measure => simp [intOf]; omega
    · have j1 : ¬ (j : Int) < (n : Int) := by omega
      go_wp2_with fail
      go_ret
      exact ⟨rfl, rfl⟩
end Go.Proofs.Ytkgnaaocgejeiaa
