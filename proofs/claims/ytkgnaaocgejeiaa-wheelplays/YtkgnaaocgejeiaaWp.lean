/-
  What is due, in plain mathematics: numbers with their times, in order; one more, one fewer, those that are due by a time.
-/
import Derived.Test.YtkgnaaocgejeiaaWs
namespace Go.Proofs.Ytkgnaaocgejeiaa
/-- Ahead of: by its time, then by itself. -/
abbrev ltP (a b : Int × Int) : Prop := a.2 < b.2 ∨ (a.2 = b.2 ∧ a.1 < b.1)
theorem ltP_trans {a b c : Int × Int} (h : ltP a b) (k : ltP b c) : ltP a c := by unfold ltP at *; omega
theorem ltP_total {a b : Int × Int} (h : ¬ ltP a b) (hn : a.1 ≠ b.1) : ltP b a := by unfold ltP at *; omega
/-- When a number is due. -/
def tOf (L : List (Int × Int)) (z : Int) : Option Int := (L.find? fun q => q.1 == z).map (·.2)
/-- The numbers. -/
def ids (L : List (Int × Int)) : List Int := L.map (·.1)
/-- One fewer. -/
def del (z : Int) (L : List (Int × Int)) : List (Int × Int) := L.filter fun q => !(q.1 == z)
/-- One more, at its place. -/
def ins (q : Int × Int) (L : List (Int × Int)) : List (Int × Int) := (L.takeWhile fun r => decide (ltP r q)) ++ q :: (L.dropWhile fun r => decide (ltP r q))
/-- A wheel's numbers as they should be. -/
structure Ok (now : Int) (L : List (Int × Int)) : Prop where
  srt : L.Pairwise ltP
  nd : (ids L).Nodup
  nn : ∀ q ∈ L, N q.1
  tm : ∀ q ∈ L, now < q.2 ∧ q.2 ≤ 1099511627776
  n0 : 0 ≤ now ∧ now ≤ 1099511627776
  ln : L.length ≤ 256
theorem Ok.nil : Ok 0 [] := ⟨List.Pairwise.nil, List.nodup_nil, (fun _ h => by cases h), (fun _ h => by cases h), (by decide), (by decide)⟩
theorem tOf_nil (z : Int) : tOf [] z = none := rfl
theorem tOf_cons (q : Int × Int) (L : List (Int × Int)) (z : Int) : tOf (q :: L) z = if q.1 = z then some q.2 else tOf L z := by
  unfold tOf
  rw [List.find?_cons]
  by_cases e : q.1 = z
  · simp [e]
  · have : (q.1 == z) = false := by simp [e]
    rw [this, if_neg e]
theorem tOf_none {L : List (Int × Int)} {z : Int} : tOf L z = none ↔ z ∉ ids L := by
  induction L with
  | nil => simp [tOf_nil, ids]
  | cons q L ih =>
    rw [tOf_cons]
    unfold ids at ih ⊢
    by_cases e : q.1 = z
    · simp [e]
    · rw [if_neg e, ih]
      simp [Ne.symm e]
theorem tOf_some {L : List (Int × Int)} {z : Int} : (tOf L z).isSome = true ↔ z ∈ ids L := by
  have := tOf_none (L := L) (z := z)
  cases h : tOf L z with
  | none =>
    rw [h] at this
    simp at this
    simp [this]
  | some v =>
    rw [h] at this
    simp at this
    simpa using this
theorem tOf_mem {L : List (Int × Int)} (hn : (ids L).Nodup) {q : Int × Int} (h : q ∈ L) : tOf L q.1 = some q.2 := by
  induction L with
  | nil => cases h
  | cons r L ih =>
    rw [tOf_cons]
    unfold ids at hn
    rw [List.map_cons, List.nodup_cons] at hn
    rcases List.mem_cons.1 h with rfl | h
    · rw [if_pos rfl]
    · rw [if_neg, ih hn.2 h]
      intro e
      exact hn.1 (e ▸ List.mem_map_of_mem h)
theorem tOf_get {L : List (Int × Int)} {z v : Int} (h : tOf L z = some v) : (z, v) ∈ L := by
  induction L with
  | nil => cases h
  | cons r L ih =>
    rw [tOf_cons] at h
    by_cases e : r.1 = z
    · rw [if_pos e] at h
      cases h
      subst e
      exact List.mem_cons_self
    · rw [if_neg e] at h
      exact List.mem_cons_of_mem _ (ih h)
theorem tOf_del (z : Int) (L : List (Int × Int)) : tOf (del z L) = upd (tOf L) z none := by
  funext y
  unfold upd
  induction L with
  | nil => simp [del, tOf_nil]
  | cons q L ih =>
    unfold del at ih ⊢
    rw [List.filter_cons, tOf_cons]
    by_cases e : q.1 = z
    · have e' : (!(q.1 == z)) = false := by simp [e]
      rw [e', if_neg (by simp), ih]
      by_cases e1 : y = z
      · simp [e1]
      · rw [if_neg e1, if_neg e1, if_neg]
        intro e2
        exact e1 (e2.symm.trans e)
    · have e' : (!(q.1 == z)) = true := by simp [e]
      rw [e', if_pos rfl, tOf_cons, ih]
      by_cases e1 : y = z
      · subst e1
        simp [e]
      · rw [if_neg e1, if_neg e1]
theorem tOf_append (A B : List (Int × Int)) (z : Int) : tOf (A ++ B) z = (tOf A z).or (tOf B z) := by
  induction A with
  | nil => rfl
  | cons q A ih =>
    rw [List.cons_append, tOf_cons, tOf_cons]
    by_cases e : q.1 = z
    · simp [e]
    · rw [if_neg e, if_neg e, ih]
theorem tOf_ins {z v : Int} {L : List (Int × Int)} (hz : z ∉ ids L) : tOf (ins (z, v) L) = upd (tOf L) z (some v) := by
  funext y
  unfold upd ins
  have e0 := List.takeWhile_append_dropWhile (p := fun r => decide (ltP r (z, v))) (l := L)
  have hL : tOf L y = _ := (congrArg (fun A => tOf A y) e0.symm)
  simp only [tOf_append] at hL
  rw [tOf_append, tOf_cons]
  by_cases e1 : y = z
  · subst e1
    rw [if_pos rfl, if_pos rfl]
    have h0 := tOf_none.2 hz
    rw [h0] at hL
    cases ht : tOf (L.takeWhile fun r => decide (ltP r (y, v))) y with
    | none => rfl
    | some u => rw [ht] at hL; cases hL
  · rw [if_neg e1, if_neg (Ne.symm e1), hL]
theorem mem_del {z : Int} {L : List (Int × Int)} {q : Int × Int} : q ∈ del z L ↔ q ∈ L ∧ q.1 ≠ z := by
  unfold del
  rw [List.mem_filter]
  simp
theorem mem_ins {q : Int × Int} {L : List (Int × Int)} {r : Int × Int} : r ∈ ins q L ↔ r = q ∨ r ∈ L := by
  unfold ins
  have e0 := List.takeWhile_append_dropWhile (p := fun r => decide (ltP r q)) (l := L)
  have e1 : r ∈ L ↔ r ∈ (L.takeWhile fun r => decide (ltP r q)) ∨ r ∈ (L.dropWhile fun r => decide (ltP r q)) := by rw [← List.mem_append, e0]
  rw [e1]
  simp only [List.mem_append, List.mem_cons]
  constructor
  · rintro (h | h | h)
    · exact .inr (.inl h)
    · exact .inl h
    · exact .inr (.inr h)
  · rintro (h | h | h)
    · exact .inr (.inl h)
    · exact .inl h
    · exact .inr (.inr h)
theorem ids_ins (q : Int × Int) (L : List (Int × Int)) : (ids (ins q L)).Perm (ids L ++ [q.1]) := by
  have e0 := List.takeWhile_append_dropWhile (p := fun r => decide (ltP r q)) (l := L)
  unfold ins ids
  rw [List.map_append, List.map_cons]
  refine List.perm_middle.trans ?_
  rw [← List.map_append, e0]
  exact (List.perm_append_singleton _ _).symm
theorem ids_del {z : Int} {L : List (Int × Int)} (hn : (ids L).Nodup) (hz : z ∈ ids L) : (z :: ids (del z L)).Perm (ids L) := by
  induction L with
  | nil => cases hz
  | cons q L ih =>
    unfold ids del at *
    rw [List.map_cons, List.nodup_cons] at hn
    rw [List.filter_cons]
    by_cases e : q.1 = z
    · have e' : (!(q.1 == z)) = false := by simp [e]
      rw [e', if_neg (by simp), List.map_cons, e]
      have : L.filter (fun q => !(q.1 == z)) = L := List.filter_eq_self.2 (fun r hr => by
        simp
        intro e2
        exact hn.1 (by rw [e, ← e2]; exact List.mem_map_of_mem hr))
      rw [this]
    · have e' : (!(q.1 == z)) = true := by simp [e]
      rw [e', if_pos rfl, List.map_cons, List.map_cons]
      have hz' : z ∈ L.map (·.1) := by
        rw [List.map_cons] at hz
        rcases List.mem_cons.1 hz with h | h
        · exact absurd h.symm e
        · exact h
      exact (List.Perm.swap _ _ _).trans ((ih hn.2 hz').cons _)
theorem del_len {z : Int} {L : List (Int × Int)} (hn : (ids L).Nodup) (hz : z ∈ ids L) : (del z L).length + 1 = L.length := by
  have := (ids_del hn hz).length_eq
  simpa [ids] using this
theorem del_none {z : Int} {L : List (Int × Int)} (hz : z ∉ ids L) : del z L = L := List.filter_eq_self.2 (fun r hr => by
  simp
  intro e
  exact hz (e ▸ List.mem_map_of_mem hr))
theorem Ok.del {now : Int} {L : List (Int × Int)} (h : Ok now L) (z : Int) : Ok now (del z L) := by
  refine ⟨h.srt.filter _, ?_, fun q hq => h.nn q (mem_del.1 hq).1, fun q hq => h.tm q (mem_del.1 hq).1, h.n0, Nat.le_trans (List.length_filter_le _ _) h.ln⟩
  exact h.nd.sublist (List.filter_sublist.map _)
theorem ins_len (q : Int × Int) (L : List (Int × Int)) : (ins q L).length = L.length + 1 := by
  have := (ids_ins q L).length_eq
  simpa [ids] using this
theorem srt_ins {q : Int × Int} {L : List (Int × Int)} (h : L.Pairwise ltP) (hz : q.1 ∉ ids L) : (ins q L).Pairwise ltP := by
  induction L with
  | nil => simp [ins]
  | cons r L ih =>
    rw [List.pairwise_cons] at h
    unfold ids at hz ih
    rw [List.map_cons, List.mem_cons, not_or] at hz
    by_cases e : ltP r q
    · have e1 : ins q (r :: L) = r :: ins q L := by simp [ins, e]
      rw [e1, List.pairwise_cons]
      refine ⟨fun x hx => ?_, ih h.2 hz.2⟩
      rcases mem_ins.1 hx with rfl | hx
      · exact e
      · exact h.1 x hx
    · have e1 : ins q (r :: L) = q :: r :: L := by simp [ins, e]
      rw [e1, List.pairwise_cons]
      have hr := ltP_total e (Ne.symm hz.1)
      refine ⟨fun x hx => ?_, List.pairwise_cons.2 h⟩
      rcases List.mem_cons.1 hx with rfl | hx
      · exact hr
      · exact ltP_trans hr (h.1 x hx)
theorem Ok.ins {now z v : Int} {L : List (Int × Int)} (h : Ok now L) (hz : z ∉ ids L) (nz : N z) (hv : now < v ∧ v ≤ 1099511627776) (hl : L.length < 256) : Ok now (ins (z, v) L) := by
  refine ⟨srt_ins h.srt hz, ?_, fun q hq => ?_, fun q hq => ?_, h.n0, by rw [ins_len]; omega⟩
  · refine (ids_ins (z, v) L).nodup_iff.2 ?_
    rw [List.nodup_append]
    refine ⟨h.nd, by simp, fun a ha b hb e => ?_⟩
    obtain rfl := List.mem_singleton.1 hb
    exact hz (e ▸ ha)
  · rcases mem_ins.1 hq with rfl | hq
    · exact nz
    · exact h.nn q hq
  · rcases mem_ins.1 hq with rfl | hq
    · exact hv
    · exact h.tm q hq
/-- The first of a heap is the first of the list. -/
theorem heap_first {now : Int} {q : Int × Int} {R : List (Int × Int)} {l : List Int} (h : Ok now (q :: R)) (hp : l.Perm (ids (q :: R))) (hh : Heap (tOf (q :: R)) l.length (at0 l)) : at0 l 0 = q.1 := by
  have hq : q.1 ∈ l := hp.mem_iff.2 List.mem_cons_self
  obtain ⟨k, hk, ek⟩ := List.getElem_of_mem hq
  have h0 : 0 < l.length := by omega
  have hm := heap_min hh k hk
  have e1 : at0 l k = q.1 := at0_get (by rw [List.getElem?_eq_getElem hk, ek])
  rw [e1] at hm
  have hx : at0 l 0 ∈ ids (q :: R) := hp.mem_iff.1 (List.mem_of_getElem? (at0_lt h0))
  obtain ⟨r, hr, er⟩ := List.mem_map.1 hx
  rcases List.mem_cons.1 hr with rfl | hr'
  · exact er.symm
  · have hlt := (List.pairwise_cons.1 h.srt).1 r hr'
    unfold le ltT at hm
    rw [← er, tOf_mem h.nd hr, tOf_mem h.nd List.mem_cons_self] at hm
    unfold ltP at hlt
    simp only [Option.getD_some] at hm
    split at hm <;> simp at hm <;> omega
theorem del_head {q : Int × Int} {R : List (Int × Int)} (h : (ids (q :: R)).Nodup) : del q.1 (q :: R) = R := by
  unfold ids at h
  rw [List.map_cons, List.nodup_cons] at h
  have := del_none (z := q.1) (L := R) h.1
  unfold del at this ⊢
  rw [List.filter_cons]
  simp only [beq_self_eq_true, Bool.not_true, Bool.false_eq_true, if_false]
  exact this
theorem Ok.tail {now : Int} {q : Int × Int} {R : List (Int × Int)} (h : Ok now (q :: R)) : Ok now R := by
  have := h.del q.1
  rwa [del_head h.nd] at this
/-- What is due by a time; what isn't. -/
def outN (at_ : Int) (L : List (Int × Int)) : List (Int × Int) := L.takeWhile fun q => decide (q.2 ≤ at_)
def restN (at_ : Int) (L : List (Int × Int)) : List (Int × Int) := L.dropWhile fun q => decide (q.2 ≤ at_)
theorem out_rest (at_ : Int) (L : List (Int × Int)) : outN at_ L ++ restN at_ L = L := List.takeWhile_append_dropWhile
theorem rest_late {now at_ : Int} {L : List (Int × Int)} (h : Ok now L) : ∀ q ∈ restN at_ L, at_ < q.2 := by
  have hs := h.srt
  clear h
  induction L with
  | nil => intro q hq; cases hq
  | cons r L ih =>
    intro q hq
    unfold restN at hq ih
    rw [List.dropWhile_cons] at hq
    rw [List.pairwise_cons] at hs
    by_cases e : r.2 ≤ at_
    · rw [if_pos (by simp [e])] at hq
      exact ih hs.2 q hq
    · rw [if_neg (by simp [e])] at hq
      rcases List.mem_cons.1 hq with rfl | hq
      · omega
      · have := hs.1 q hq
        unfold ltP at this
        omega
theorem Ok.rest {now at_ : Int} {L : List (Int × Int)} (h : Ok now L) (ha : now ≤ at_ ∧ at_ ≤ 1099511627776) : Ok at_ (restN at_ L) := by
  have hs : (restN at_ L).Sublist L := List.dropWhile_sublist _
  have h0 := h.n0
  refine ⟨h.srt.sublist hs, h.nd.sublist (hs.map _), fun q hq => h.nn q (hs.subset hq), fun q hq => ⟨rest_late h q hq, (h.tm q (hs.subset hq)).2⟩, ⟨by omega, ha.2⟩, Nat.le_trans hs.length_le h.ln⟩
/-- What Set answers, and leaves. -/
def setE (now : Int) (L : List (Int × Int)) (z v : Int) : Int := if v ≤ now ∨ 1099511627776 < v then 10 else if z ∉ ids L ∧ L.length = 256 then 9 else 0
def setL (now : Int) (L : List (Int × Int)) (z v : Int) : List (Int × Int) := if setE now L z v = 0 then ins (z, v) (del z L) else L
/-- What Go answers, and leaves. -/
def goE (now at_ : Int) : Int := if at_ < now ∨ 1099511627776 < at_ then 10 else 0
theorem not_mem_del (z : Int) (L : List (Int × Int)) : z ∉ ids (Ytkgnaaocgejeiaa.del z L) := by
  intro h
  obtain ⟨q, hq, e⟩ := List.mem_map.1 h
  exact (mem_del.1 hq).2 e
theorem Ok.set {now z v : Int} {L : List (Int × Int)} (h : Ok now L) (nz : N z) : Ok now (setL now L z v) := by
  unfold setL
  by_cases e : setE now L z v = 0
  · rw [if_pos e]
    unfold setE at e
    by_cases e1 : v ≤ now ∨ 1099511627776 < v
    · rw [if_pos e1] at e; cases e
    · rw [if_neg e1] at e
      by_cases e2 : z ∉ ids L ∧ L.length = 256
      · rw [if_pos e2] at e; cases e
      · refine (h.del z).ins (not_mem_del z L) nz (by omega) ?_
        by_cases hz : z ∈ ids L
        · have := del_len h.nd hz
          have := h.ln
          omega
        · rw [del_none hz]
          have := h.ln
          have : L.length ≠ 256 := fun e3 => e2 ⟨hz, e3⟩
          omega
  · rw [if_neg e]; exact h
end Go.Proofs.Ytkgnaaocgejeiaa
