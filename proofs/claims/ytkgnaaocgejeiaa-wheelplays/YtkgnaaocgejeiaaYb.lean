/-
  The contract of the document's wheel's call Drop over this program.
-/
import Derived.Test.YtkgnaaocgejeiaaYa
namespace Go.Proofs.Ytkgnaaocgejeiaa
open Go Go.RowKit Go.Maps
theorem info45 : (Try.prog.info? 45).map (fun i => (i.zero, i.size, i.bytes)) = some (some (.agg #[.int .i64 0, .int .i64 0]), 2, 16) := by kernel_rfl
theorem step_append_any {P : Program} {w : World} {ops : Array Oper} {o : Oper} {a : Act} {K : Act → World → Prop} {Q : Exit → Act → World → Prop} {E : Prop} (hgd : o.guard = none) (s x : Operand) (t : TypeId)
    (ho : o.op = .call { callee := .builtin .append, args := #[s, x], argTypes := #[t, t] })
    (base : Nat) (e : TypeId) (i : TypeInfo) (z : Value) (size bytes : Nat) (ht : P.underlying t = some (.slice e)) (hi : P.info? e = some i) (hz : i.zero = some z)
    (hsize : i.size = size) (hby : i.bytes = bytes) (hzs : z.cells.size = size) (hsz : 0 < size) (v : Value) (n : Nat) (xs : List Value) (hs : a.eval s = v) (hown : w.ownsRow base e size v n xs)
    (ao : Option Addr) (m c : Nat) (news : List Value) (hx : a.eval x = .slice ao m c) (hnil : ao = none → m = 0 ∧ c = 0) (hl : news.length = m * size)
    (hrow : ∀ (j : Nat) (u : Value), news[j]? = some u → ∃ ad, ao = some ad ∧ w.cell? (ad.add j) = some u) (h1 : ∀ u ∈ news, u.oneCell' = true)
    (h63 : n + m ≤ maxLen) (hbytes : (n + m) * bytes ≤ 140737488355328) (hbase : base ≤ w.heap.size)
    (h : ∀ v' w', w'.ownsRow base e size v' (n + m) (xs ++ news) → Below base w w' → w.grownBy w' v.ownBlock → K (a.put o.dst v') w') :
    if Region.wanted o (yielded ops a.tmps) = true then Oper.wp P o a w K Q else E := by
  have hw : Region.wanted o (yielded ops a.tmps) = true := by simp [Region.wanted, hgd]
  rw [if_pos hw]
  cases ao with
  | none =>
    obtain ⟨rfl, rfl⟩ := hnil rfl
    obtain rfl : news = [] := List.length_eq_zero_iff.1 (by rw [hl, Nat.zero_mul])
    have hrun := run_append_owned_none (P := P) (w := w) base t o.type e i size ht hi v n xs hown
    have hK := h v w (by rw [List.append_nil, Nat.add_zero]; exact hown) (Below.refl _ _) ⟨rfl, rfl, rfl, Nat.le_refl _, fun _ _ _ => rfl⟩
    unfold Oper.wp
    simp [execOp, ho, resolve, invoke, builtin, hs, hx, hrun, Result.andThen]
    exact hK
  | some ad =>
    refine wp_append_own w s x t ho base e i z size bytes ht hi hz hsize hby hzs hsz v n xs hs hown ad m c news hx hl (fun j u hu => ?_) h1 h63 hbytes hbase fun v' w' h2 h3 _ => ?_
    · obtain ⟨ad', h3, h4⟩ := hrow j u hu
      cases h3
      exact h4
    · exact h v' w' h2 ((Below.refl _ w).grown h3 hbase (fun k hk => (World.ownsRow.lt hown k hk).1)) h3
theorem del_at {L : List (Int × Int)} {z : Int} {k : Nat} (hn : (ids L).Nodup) (hk : (ids L)[k]? = some z) : del z L = L.take k ++ L.drop (k + 1) := by
  induction L generalizing k with
  | nil => simp [ids] at hk
  | cons p L ih =>
    unfold ids at hn hk ih
    rw [List.map_cons] at hn hk
    rw [List.nodup_cons] at hn
    cases k with
    | zero =>
      simp at hk
      have h0 : z ∉ ids L := by rw [← hk]; exact hn.1
      have := del_none h0
      unfold del at this ⊢
      rw [List.filter_cons]
      have e : (!(p.1 == z)) = false := by simp [hk]
      rw [e, if_neg (by simp), this]
      rfl
    | succ k =>
      have hk' : (L.map (·.1))[k]? = some z := by simpa using hk
      have hne : p.1 ≠ z := fun e => hn.1 (by rw [e]; exact List.mem_of_getElem? hk')
      have := ih hn.2 hk'
      unfold del at this ⊢
      rw [List.filter_cons]
      have e : (!(p.1 == z)) = true := by simp [hne]
      rw [e, if_pos rfl, this]
      rfl
theorem RowD.drop {w : World} {g off cap k : Nat} {L : List (Int × Int)} {dp : Option Addr} (h : RowD w (some ⟨g, off, none⟩) L) (hc : L.length ≤ cap) (hd : (if cap = k then some (⟨g, off, none⟩ : Addr) else some ⟨g, off + k * 2, none⟩) = dp) : RowD w dp (L.drop k) := by
  intro i p hp
  rw [List.getElem?_drop] at hp
  have hi := (List.getElem?_eq_some_iff.1 hp).1
  rw [if_neg (by omega)] at hd
  obtain ⟨g', off', h1, h2, h3⟩ := h (k + i) p hp
  cases h1
  refine ⟨g, off + k * 2, hd.symm, ?_, ?_⟩
  · have e : off + k * 2 + i * 2 = off + (k + i) * 2 := by omega
    rw [e]; exact h2
  · have e : off + k * 2 + i * 2 + 1 = off + (k + i) * 2 + 1 := by omega
    rw [e]; exact h3
theorem RowD.below {w w' : World} {ao : Option Addr} {L : List (Int × Int)} (h : RowD w ao L) (hb : Below w.heap.size w w') : RowD w' ao L := fun i p hp => by
  obtain ⟨g, off, rfl, k1, k2⟩ := h i p hp
  have hl := World.block_lt_of_cell? w _ k1
  exact ⟨g, off, rfl, (hb.cell (p := ⟨g, off + i * 2, none⟩) hl).trans k1, (hb.cell (p := ⟨g, off + i * 2 + 1, none⟩) hl).trans k2⟩
/-- What a call of the document's wheel leaves: its own block may be written, and a new row laid. -/
def RRes (q : Nat) (D : List Nat) (now : Int) (L : List (Int × Int)) (w w' : World) : Prop := ∃ D', RqAt q D' now L w' ∧ Nx D D' w ∧ Fr [q] w w'
/-- A new row is put into the wheel's block. -/
theorem rq_store {q : Nat} {D : List Nat} {now : Int} {L : List (Int × Int)} {v0 v : Value} {n : Nat} {w w5 : World} (h1 : w.heap[q]? = some (.cells #[v0, .int .i64 now] 29 (0, 0))) (hq : q ∈ D) (hb : Below w.heap.size w w5) (ho : w5.ownsRow w.heap.size 45 2 v n (dues L)) (hn : L.length = n) : RRes q D now L w (w5.setCell ⟨q, 0, none⟩ v) := by
  obtain ⟨ao, cap, rfl, k2, k3, k4, k5⟩ := own_rowd ho hn
  have hql := lt_of_heap h1
  have h5 : w5.heap[q]? = some (.cells #[v0, .int .i64 now] 29 (0, 0)) := (hb.block q hql).trans h1
  subst hn
  refine ⟨D ++ ao.toList.map (·.block), ⟨⟨ao, cap, heap_set h5 0 _, k2.keep fun ad ea => ?_, k3, k4, fun ad ea => ⟨(k5 ad ea).1, ?_, ?_, ?_⟩⟩, List.mem_append_left _ hq⟩, ?_, ((Fr.of_below hb).setCell 0 _ (List.mem_singleton.2 rfl))⟩
  · have := (k5 ad ea).2.1
    exact Below.heap_setCell _ _ _ _ (by show ad.block ≠ q; omega)
  · subst ea
    exact List.mem_append_right _ (by simp)
  · have := (k5 ad ea).2.1
    omega
  · have := (k5 ad ea).2.2
    simpa [World.setCell] using this
  · intro k hk
    rcases List.mem_append.1 hk with hk | hk
    · exact .inl hk
    · cases ao with
      | none => cases hk
      | some ad =>
        simp at hk
        subst hk
        exact .inr (k5 ad rfl).2.1
set_option maxHeartbeats 1000000 in
theorem rdrop_yes (q : Nat) (D : List Nat) (now : Int) (L : List (Int × Int)) (z : Int) (w : World) (h : RqAt q D now L w) (hn : (ids L).Nodup) (hz : z ∈ ids L) (hL : L.length ≤ 256) :
    Calls Try.prog 16 #[.pointer (some ⟨q, 0, none⟩), .int .i64 z] w fun e w' => e = .returned (.bool true) ∧ RRes q D now (del z L) w w' := by
  obtain ⟨i0, hi, hz0, hz1, hz2⟩ := info_parts info45
  obtain ⟨k, hk⟩ : ∃ k, (ids L)[k]? = some z := List.mem_iff_getElem?.1 hz
  have HAT := rat_yes q D now L z k w h hn hk (by omega)
  have HDEL : Hid (del z L = L.take k ++ L.drop (k + 1)) := del_at hn hk
  have hkl : k < L.length := by have := (List.getElem?_eq_some_iff.1 hk).1; rwa [ids_len] at this
  obtain ⟨ao, cap, h1, h2, h3, h4, h5⟩ := h.ex
  obtain ⟨p, hp⟩ : ∃ p, L[k]? = some p := ⟨_, List.getElem?_eq_getElem hkl⟩
  obtain ⟨g, off, rfl, _, _⟩ := h2 k p hp
  have HQM : Hid (q ∈ D) := h.qm
  have hql := lt_of_heap h1
  obtain ⟨n, hn'⟩ : ∃ n, L.length = n := ⟨_, rfl⟩
  have EN : Hid _ := hn'
  rw [hn'] at h1 h3 hkl hL
  have H1 : Hid (w.heap[q]? = some (.cells #[.slice (some ⟨g, off, none⟩) n cap, .int .i64 now] 29 (0, 0))) := h1
  have HC : Hid (∀ W : World, W.heap[q]? = w.heap[q]? → W.cell? ⟨q, 0, none⟩ = some (.slice (some ⟨g, off, none⟩) n cap) ∧ W.frozen? ⟨q, 0, none⟩ = false) := fun W hW => ⟨rq_c0 (hW.trans h1), rq_fz (hW.trans h1) 0⟩
  obtain ⟨c0, f0⟩ := HC.out w rfl
  obtain ⟨k1, hk1⟩ : ∃ k1, k + 1 = k1 := ⟨_, rfl⟩
  have EK : Hid _ := hk1
  have wk : IntKind.i64.wrap ((k : Int) + 1) = (k1 : Int) := by simp only [IntKind.wrap_i64]; omega
  obtain ⟨dp, hdp⟩ : ∃ dp, (if cap = k1 then some (⟨g, off, none⟩ : Addr) else some ⟨g, off + k1 * 2, none⟩) = dp := ⟨_, rfl⟩
  have HRD : Hid (RowD w dp (L.drop k1)) := RowD.drop h2 (by rw [hn']; exact h3) hdp
  have HRT : Hid (RowD w (some ⟨g, off, none⟩) (L.take k)) := h2.take k
  have HDN : Hid (dp = none → False) := fun e => by rw [e] at hdp; split at hdp <;> cases hdp

  obtain ⟨m2, hm2⟩ : ∃ m2, n - k1 = m2 := ⟨_, rfl⟩
  have HM2 : Hid (m2 ≤ 256 ∧ (L.drop k1).length = m2 ∧ (L.take k).length = k ∧ k + m2 ≤ 256 ∧ (del z L).length = k + m2) := by
    refine ⟨by omega, by rw [List.length_drop, hn', hm2], by rw [List.length_take, hn']; omega, by omega, ?_⟩
    rw [HDEL.out, hk1, List.length_append, List.length_drop, List.length_take, hn']; omega
  have k0 : (0 : Int) ≤ (k : Int) := by omega
  have k2 : (k : Int) ≤ (cap : Int) := by omega
  have k3 : (0 : Int) ≤ (k1 : Int) := by omega
  have k4 : (k1 : Int) ≤ (n : Int) := by omega
  have k5 : (n : Int) ≤ (cap : Int) := by omega
  have hk256 : k ≤ 256 := by omega
  clear h h1 h2 h4 h5 hn hk hp hn' hk1 hz
  go_enter Try.func16, Try.ntmps16
  go_wp2_with (go_at_call 25; refine HAT.mono ?_; rintro e w ⟨rfl, rfl⟩)
  go_region_law (first
    | (refine step_append_any rfl (.tmp 18) (.tmp 25) 27 rfl w.heap.size 45 i0 _ 2 16 Try.underlying27 hi hz0 hz1 hz2 rfl (by decide) _ k (dues (L.take k)) rfl HO5.out dp m2 (cap - k1) (dues (L.drop k1)) rfl (fun e => (HDN.out e).elim) (by rw [dues_len, HM2.out.2.1]) (RowD.cells HRD5.out) (dues_one _) (by have := HM2.out.1; unfold maxLen; omega) (by have := HM2.out.1; omega) hs5 ?_
       intro v6 w6 ho6 hb6 _
       have hb7 : Below w.heap.size w w6 := HB5.out.trans hb6
       obtain ⟨d2, f2⟩ := HC.out w6 (hb7.block q hql)
       have ho7 : w6.ownsRow w.heap.size 45 2 v6 (k + m2) (dues (del z L)) := (by rw [HDEL.out, dues_append, EK.out]; exact ho6)
       obtain ⟨ao6, cap6, rfl, _⟩ := own_rowd ho7 HM2.out.2.2.2.2
       have HR6 : Hid (RRes q D now (del z L) w (w6.setCell ⟨q, 0, none⟩ (.slice ao6 (k + m2) cap6))) := rq_store (n := k + m2) H1.out HQM.out hb7 ho7 HM2.out.2.2.2.2
       clear ho6 ho7 hb6 hb7)
    | (refine step_append_any rfl (.const (.slice none 0 0)) (.tmp 17) 27 rfl w.heap.size 45 i0 _ 2 16 Try.underlying27 hi hz0 hz1 hz2 rfl (by decide) _ 0 [] rfl (World.ownsRow_nil _ _ _ _) (some ⟨g, off, none⟩) k cap (dues (L.take k)) rfl (fun e => by cases e) (by rw [dues_len, HM2.out.2.2.1]) (RowD.cells HRT.out) (dues_one _) (by unfold maxLen; omega) (by omega) (Nat.le_refl _) ?_
       intro v5 w5 ho5 hb5 _
       have HB5 : Hid (Below w.heap.size w w5) := (Below.refl _ w).drew.trans hb5
       obtain ⟨d1, f1⟩ := HC.out w5 (HB5.out.block q hql)
       have HO5 : Hid (w5.ownsRow w.heap.size 45 2 v5 k (dues (L.take k))) := (by rw [Nat.zero_add, List.nil_append] at ho5; exact ho5)
       have HRD5 : Hid (RowD w5 dp (L.drop k1)) := HRD.out.below HB5.out
       have hs5 := HB5.out.size
       clear ho5 hb5)
    | fail)
  all_goals (
    go_wp2_with fail
    go_ret
    exact ⟨rfl, HR6.out⟩)
set_option maxHeartbeats 400000 in
theorem rdrop_no (q : Nat) (D : List Nat) (now : Int) (L : List (Int × Int)) (z : Int) (w : World) (h : RqAt q D now L w) (hz : z ∉ ids L) (hL : L.length ≤ 256) :
    Calls Try.prog 16 #[.pointer (some ⟨q, 0, none⟩), .int .i64 z] w fun e w' => e = .returned (.bool false) ∧ w' = w := by
  have HAT := rat_no q D now L z w h hz (by omega)
  clear h hz hL
  go_enter Try.func16, Try.ntmps16
  go_wp2_with (go_at_call 25; refine HAT.mono ?_; rintro e w ⟨rfl, rfl⟩)
  go_ret
  exact ⟨rfl, rfl⟩
theorem RRes.refl {q : Nat} {D : List Nat} {now : Int} {L : List (Int × Int)} {w : World} (h : RqAt q D now L w) : RRes q D now L w w := ⟨D, h, Nx.refl _ _, Fr.refl _ _⟩
theorem rdrop_any (q : Nat) (D : List Nat) (now : Int) (L : List (Int × Int)) (z : Int) (w : World) (h : RqAt q D now L w) (hn : (ids L).Nodup) (hL : L.length ≤ 256) :
    Calls Try.prog 16 #[.pointer (some ⟨q, 0, none⟩), .int .i64 z] w fun e w' => e = .returned (.bool (tOf L z).isSome) ∧ RRes q D now (del z L) w w' := by
  by_cases hz : z ∈ ids L
  · rw [tOf_some.2 hz]
    exact rdrop_yes q D now L z w h hn hz hL
  · rw [tOf_none.2 hz, del_none hz]
    refine (rdrop_no q D now L z w h hz hL).mono fun e w' ⟨he, hw⟩ => ?_
    subst hw
    exact ⟨he, RRes.refl h⟩
end Go.Proofs.Ytkgnaaocgejeiaa
