/-
  The contracts of the document's ledger's calls Send, Open, Undo, Confirm over this program.
-/
import Derived.Test.YtjmggofcncladaaQa
namespace Go.Proofs.Ytjmggofcncladaa
open Go Go.RowKit
theorem RowS.drop {w : World} {g cap k : Nat} {l : List ByteArray} {dp : Option Addr} (h : RowS w (some ⟨g, 0, none⟩) l) (hc : l.length ≤ cap) (hd : (if cap = k then some (⟨g, 0, none⟩ : Addr) else some ⟨g, k, none⟩) = dp) : RowS w dp (l.drop k) := by
  intro i s hs
  rw [List.getElem?_drop] at hs
  have hi := (List.getElem?_eq_some_iff.1 hs).1
  rw [if_neg (by omega)] at hd
  obtain ⟨ad, h1, h2⟩ := h (k + i) s hs
  cases h1
  have e1 : (⟨g, 0, none⟩ : Addr).add (k + i) = ⟨g, k + i, none⟩ := by unfold Addr.add; split <;> simp_all
  have e2 : (⟨g, k, none⟩ : Addr).add i = ⟨g, k + i, none⟩ := by unfold Addr.add; split <;> simp_all
  exact ⟨_, hd.symm, by rw [e2, ← e1]; exact h2⟩
theorem fz_store {q : Nat} {w w1 w5 : World} {row : Option Nat} (hg : w1.grownBy w5 row) (hr : row = none) (v : Value)
    (e1 : w1.os = w.os := by rfl) (e2 : w1.tape = w.tape := by rfl) (e3 : w1.output = w.output := by rfl) (e4 : w1.heap = w.heap := by rfl) : Fz q q w (w5.setCell ⟨q, 0, none⟩ v) := by
  subst hr
  have b : Below w.heap.size w w5 := ⟨hg.os.trans e1, hg.tape.trans e2, hg.output.trans e3, by rw [← e4]; exact hg.size, fun k hk => by rw [hg.block k (by rw [e4]; exact hk) (by intro e; cases e), e4]⟩
  exact (Fz.of_below b).setCell q 0 v (.inl rfl)
theorem step_append_any {P : Program} {w : World} {ops : Array Oper} {o : Oper} {a : Act} {K : Act → World → Prop} {Q : Exit → Act → World → Prop} {E : Prop} (hgd : o.guard = none) (s x : Operand) (t : TypeId)
    (ho : o.op = .call { callee := .builtin .append, args := #[s, x], argTypes := #[t, t] })
    (base : Nat) (e : TypeId) (i : TypeInfo) (z : Value) (size bytes : Nat) (ht : P.underlying t = some (.slice e)) (hi : P.info? e = some i) (hz : i.zero = some z)
    (hsize : i.size = size) (hby : i.bytes = bytes) (hzs : z.cells.size = size) (hsz : 0 < size) (v : Value) (n : Nat) (xs : List Value) (hs : a.eval s = v) (hown : w.ownsRow base e size v n xs)
    (ao : Option Addr) (m c : Nat) (news : List Value) (hx : a.eval x = .slice ao m c) (hnil : ao = none → m = 0 ∧ c = 0) (hl : news.length = m * size)
    (hrow : ∀ (j : Nat) (u : Value), news[j]? = some u → ∃ ad, ao = some ad ∧ w.cell? (ad.add j) = some u) (h1 : ∀ u ∈ news, u.oneCell' = true)
    (h63 : n + m ≤ maxLen) (hbytes : (n + m) * bytes ≤ 140737488355328) (hbase : base ≤ w.heap.size)
    (h : ∀ v' w', w'.ownsRow base e size v' (n + m) (xs ++ news) → Below base w w' → w.grownBy w' v.ownBlock → K (a.put o.dst v') w') :
    if Region.wanted o (yielded ops a.tmps) = true then Oper.wp P o a w K Q else E := by
  have hw : Region.wanted o (yielded ops a.tmps) = true := by simp [Region.wanted, hgd]
  rw [if_pos hw]
  cases ao with
  | none =>
    obtain ⟨rfl, rfl⟩ := hnil rfl
    obtain rfl : news = [] := List.length_eq_zero_iff.1 (by rw [hl, Nat.zero_mul])
    have hrun := run_append_owned_none (P := P) (w := w) base t o.type e i size ht hi v n xs hown
    have hK := h v w (by rw [List.append_nil, Nat.add_zero]; exact hown) (Below.refl _ _) ⟨rfl, rfl, rfl, Nat.le_refl _, fun _ _ _ => rfl⟩
    unfold Oper.wp
    simp [execOp, ho, resolve, invoke, builtin, hs, hx, hrun, Result.andThen]
    exact hK
  | some ad =>
    refine wp_append_own w s x t ho base e i z size bytes ht hi hz hsize hby hzs hsz v n xs hs hown ad m c news hx hl (fun j u hu => ?_) h1 h63 hbytes hbase fun v' w' h2 h3 _ => ?_
    · obtain ⟨ad', h3, h4⟩ := hrow j u hu
      cases h3
      exact h4
    · exact h v' w' h2 ((Below.refl _ w).grown h3 hbase (fun k hk => (World.ownsRow.lt hown k hk).1)) h3
/-- All texts behind a Send of the document's. -/
def allN (most d : Nat) (m : List ByteArray) (s : ByteArray) : List ByteArray := if m.length - d < most then m ++ [s] else m
set_option maxHeartbeats 1000000 in
theorem refSend_any (B q most d i : Nat) (m : List ByteArray) (st : Int) (s : ByteArray) (w : World) (h : QAt B q most m d i st w) (hm : m.length ≤ 200) (hd : d ≤ m.length) (hB : B ≤ w.heap.size) :
    Calls Try.prog 15 #[.pointer (some ⟨q, 0, none⟩), .string s] w fun e w' => e = .returned (.int .i64 (if m.length - d < most then 0 else 13)) ∧ QAt B q most (allN most d m s) d i st w' ∧ Fq B q w w' := by
  obtain ⟨i0, hi, hz0, hz1, hz2⟩ := info_parts info9
  have HQ : Hid _ := h
  obtain ⟨ao, cap, h1, h2⟩ := h
  have hne := owns_ne h2 h1
  have c0 := h1.c0
  have c1 := h1.c1
  have c3 := h1.c3
  have HO : Hid (TxAt B ao cap m w) := h2
  obtain ⟨c, hc⟩ : ∃ c, m.length = c := ⟨_, rfl⟩
  have EC : Hid _ := hc
  have hql := lt_of_heap h1
  have HNE : Hid (∀ k, (Value.slice ao c cap).ownBlock = some k → k ≠ q) := by rw [← hc]; exact hne
  have HH' : Hid (QhAt q (.slice ao c cap) d i most st w) := by rw [← hc]; exact h1
  have HO' : Hid (w.ownsRow B 9 1 (.slice ao c cap) c (strs m)) := by rw [← hc]; exact h2
  rw [hc] at c0 hm hd
  obtain ⟨x, hx⟩ : ∃ x, c - d = x := ⟨_, rfl⟩
  have hwx : IntKind.i64.wrap ((c : Int) - (d : Int)) = (x : Int) := by simp only [IntKind.wrap_i64]; omega
  unfold allN
  rw [hc, hx]
  by_cases hl : x < most
  · rw [if_pos hl, if_pos hl]
    have hge : ¬ (most : Int) ≤ (x : Int) := by omega
    clear h1 h2 hc hl hne hx
    go_enter Try.func15, Try.ntmps15
    go_wp2_with fail
    go_quiet (fail)
    go_wp2_with (at_builtin; refine wpList_append_any rfl (.tmp 24) (.tmp 26) 39 rfl B 9 i0 _ 1 16 Try.underlying39 hi hz0 hz1 hz2 rfl (by decide) _ c (strs m) rfl (World.ownsRow.alloc HO'.out _) (some ⟨w.heap.size, 0, none⟩) 1 1 (strs [s]) rfl (fun e => by cases e) (by rfl) (RowS.cells (row_block (heap_alloc_new w _) one_cell)) (strs_one _) (by unfold maxLen; omega) (by omega) (by simp; omega) ?_
                 intro v5 w5 ho5 hb5 hg5
                 rw [← strs_app] at ho5
                 obtain ⟨ao5, cap5, rfl, ht5⟩ := tx_of_owns ho5 (by simp [EC.out])
                 have hq5 : QhAt q (.slice ao c cap) d i most st w5 := ((hg5.block q (by simp; omega) (fun e => HNE.out q e.symm rfl)).trans ((Below.heap_alloc w _ q hql).trans HH'.out))
                 have d0 := hq5.c0
                 have d2 := hq5.fz 0
                 have hqs := q_store hq5 ht5
                 obtain ⟨dd, hdd⟩ : ∃ dd, (m ++ [s]).length = dd := ⟨_, rfl⟩
                 rw [hdd] at hqs ⊢
                 have HQ5 : Hid (QAt B q most (m ++ [s]) d i st (w5.setCell ⟨q, 0, none⟩ (.slice ao5 dd cap5))) := hqs
                 have HF5 : Hid (Fq B q w (w5.setCell ⟨q, 0, none⟩ (.slice ao5 dd cap5))) := (push_frame HO'.out hg5 hb5 _)
                 clear hdd hqs
                 clear ho5 hb5 hg5 hq5)
    go_ret
    exact ⟨rfl, HQ5.out, HF5.out⟩
  · rw [if_neg hl, if_neg hl]
    have hge : (most : Int) ≤ (x : Int) := by omega
    clear h1 h2 hc hl hne hx
    go_enter Try.func15, Try.ntmps15
    go_wp2_with fail
    go_quiet (fail)
    go_wp2_with fail
    go_ret
    exact ⟨rfl, QAt.alike HQ.out rfl, (Fq.refl B q w).alike rfl rfl rfl rfl⟩
/-- The document's Open: the texts from the d-th on, as they lie. -/
def OpRes (m : List ByteArray) (w : World) (e : Ending) (w' : World) : Prop := (∃ dp c', e = .returned (.slice dp m.length c') ∧ RowS w dp m) ∧ ∃ k, w' = w.drewN k
theorem refOpen_any (B q most d i : Nat) (m : List ByteArray) (st : Int) (w : World) (h : QAt B q most m d i st w) (hd : d ≤ m.length) :
    Calls Try.prog 22 #[.pointer (some ⟨q, 0, none⟩)] w fun e w' => OpRes (m.drop d) w e w' := by
  obtain ⟨ao, cap, h1, h2⟩ := h
  have c0 := h1.c0
  have c1 := h1.c1
  have hcap := h2.cap_le
  have HROW : Hid (RowS w ao m) := h2.row
  have HNL : Hid (ao = none → m.length = 0 ∧ cap = 0) := h2.nil0
  obtain ⟨c, hc⟩ : ∃ c, m.length = c := ⟨_, rfl⟩
  have EC : Hid _ := hc
  rw [hc] at hd c0 hcap
  have k0' : (0 : Int) ≤ (d : Int) := by omega
  have k2 : (d : Int) ≤ (c : Int) := by omega
  have k3 : (d : Int) ≤ (cap : Int) := by omega
  have k4 : (c : Int) ≤ (cap : Int) := by omega
  have hg2 : ∃ g, ao = none ∨ ao = some ⟨g, 0, none⟩ := by
    rcases h2.2 with ⟨h1, _⟩ | ⟨g, cap', cur, h1, _⟩
    · exact ⟨0, .inl (Value.slice.inj h1).1⟩
    · exact ⟨g, .inr (Value.slice.inj h1).1⟩
  clear h1 h2 hc
  obtain ⟨g, rfl | rfl⟩ := hg2
  · obtain ⟨e1, e2⟩ := HNL.out rfl
    rw [EC.out] at e1
    subst e1 e2
    obtain rfl : d = 0 := by omega
    have HM : Hid (m = []) := List.length_eq_zero_iff.1 EC.out
    clear HNL
    go_enter Try.func22, Try.ntmps22
    go_wp2_with fail
    go_quiet (fail)
    go_wp2_with fail
    go_ret
    rw [HM.out]
    exact ⟨⟨none, 0, rfl, fun i s hs => by simp at hs⟩, _, rfl⟩
  · obtain ⟨dp, hdp⟩ : ∃ dp, (if cap = d then some (⟨g, 0, none⟩ : Addr) else some ⟨g, d, none⟩) = dp := ⟨_, rfl⟩
    have HR : Hid (RowS w dp (m.drop d)) := RowS.drop HROW.out (by rw [EC.out]; exact hcap) hdp
    obtain ⟨x, hx⟩ : ∃ x, c - d = x := ⟨_, rfl⟩
    have HD : Hid ((m.drop d).length = x) := by show (m.drop d).length = x; rw [List.length_drop, EC.out]; exact hx
    clear HNL
    go_enter Try.func22, Try.ntmps22
    go_wp2_with fail
    go_quiet (fail)
    go_wp2_with fail
    go_ret
    exact ⟨⟨dp, _, by rw [HD.out]; rfl, HR.out⟩, _, rfl⟩
theorem refUndo_bad (B q most d i : Nat) (m : List ByteArray) (st z : Int) (w : World) (h : QAt B q most m d i st w) (hm : m.length ≤ 200) (hd : d ≤ m.length) (hz : ¬ (0 ≤ z ∧ z ≤ (m.length - d : Nat))) :
    Calls Try.prog 24 #[.pointer (some ⟨q, 0, none⟩), .int .i64 z] w fun e w' => e = .returned (.bool false) ∧ ∃ k, w' = w.drewN k := by
  obtain ⟨ao, cap, h1, h2⟩ := h
  have c0 := h1.c0
  have c1 := h1.c1
  obtain ⟨c, hc⟩ : ∃ c, m.length = c := ⟨_, rfl⟩
  rw [hc] at hz c0 hm hd
  obtain ⟨x, hx⟩ : ∃ x, c - d = x := ⟨_, rfl⟩
  have hwx : IntKind.i64.wrap ((c : Int) - (d : Int)) = (x : Int) := by simp only [IntKind.wrap_i64]; omega
  rw [hx] at hz
  clear h1 h2 hc hx
  by_cases k0 : z < 0
  · have k0' : decide (z < 0) = true := decide_eq_true k0
    clear hz
    go_enter Try.func24, Try.ntmps24
    go_wp2_with fail
    go_quiet (fail)
    go_wp2_with fail
    go_ret
    exact ⟨rfl, _, rfl⟩
  · have k0' : decide (z < 0) = false := decide_eq_false k0
    have k1 : (x : Int) < z := by omega
    clear hz
    go_enter Try.func24, Try.ntmps24
    go_wp2_with fail
    go_quiet (fail)
    go_wp2_with fail
    go_ret
    exact ⟨rfl, _, rfl⟩
set_option maxHeartbeats 1000000 in
theorem refUndo_ok (B q most d i : Nat) (m : List ByteArray) (st : Int) (j : Nat) (w : World) (h : QAt B q most m d i st w) (hm : m.length ≤ 200) (hd : d ≤ m.length) (hB : B ≤ w.heap.size) (hj : j ≤ m.length - d) :
    Calls Try.prog 24 #[.pointer (some ⟨q, 0, none⟩), .int .i64 (j : Int)] w fun e w' => e = .returned (.bool true) ∧ QAt B q most (m.take (m.length - j)) d i st w' ∧ Fz q q w w' := by
  obtain ⟨i0, hi, hz0, hz1, hz2⟩ := info_parts info9
  obtain ⟨ao, cap, h1, h2⟩ := h
  have c0 := h1.c0
  have c1 := h1.c1
  have hcap := h2.cap_le
  have hql := lt_of_heap h1
  have HROW : Hid (RowS w ao m) := h2.row
  have HNL : Hid (ao = none → m.length = 0 ∧ cap = 0) := h2.nil0
  obtain ⟨c, hc⟩ : ∃ c, m.length = c := ⟨_, rfl⟩
  have EC : Hid _ := hc
  have HH' : Hid (QhAt q (.slice ao c cap) d i most st w) := by rw [← hc]; exact h1
  rw [hc] at hm hd hj c0 hcap
  obtain ⟨x, hx⟩ : ∃ x, c - d = x := ⟨_, rfl⟩
  have hwx : IntKind.i64.wrap ((c : Int) - (d : Int)) = (x : Int) := by simp only [IntKind.wrap_i64]; omega
  obtain ⟨k, hk⟩ : ∃ k, c - j = k := ⟨_, rfl⟩
  have hwk : IntKind.i64.wrap ((c : Int) - (j : Int)) = (k : Int) := by simp only [IntKind.wrap_i64]; omega
  rw [hc, hk]
  have j0 : ¬ (j : Int) < 0 := by omega
  have j0' : decide ((j : Int) < 0) = false := decide_eq_false j0
  have j1 : ¬ (x : Int) < (j : Int) := by omega
  have k0' : (0 : Int) ≤ (k : Int) := by omega
  have k6 : k ≤ 200 := by omega
  have k3 : (k : Int) ≤ (cap : Int) := by omega
  have HE : Hid ((m.take k).length = k) := by show (m.take k).length = k; rw [List.length_take, EC.out]; omega
  have HRT : Hid (RowS w ao (m.take k)) := RowS.take HROW.out k
  have HNK : Hid (ao = none → k = 0 ∧ cap = 0) := fun e => by have := HNL.out e; rw [EC.out] at this; omega
  clear h1 h2 hc hx hk
  go_enter Try.func24, Try.ntmps24
  go_wp2_with fail
  go_quiet (fail)
  go_wp2_with fail
  go_region_law (first
    | (refine step_append_any rfl (.const (.slice none 0 0)) (.tmp 33) 39 rfl B 9 i0 _ 1 16 Try.underlying39 hi hz0 hz1 hz2 rfl (by decide) _ 0 [] rfl (World.ownsRow_nil _ _ _ _) ao k cap (strs (m.take k)) rfl HNK.out (by rw [strs_length, HE.out, Nat.mul_one]) (RowS.cells HRT.out) (strs_one _) (by unfold maxLen; omega) (by omega) hB ?_
       intro v5 w5 ho5 hb5 hg5
       have hq5 : QhAt q (.slice ao c cap) d i most st w5 := ((hg5.block q hql (fun e => by cases e)).trans HH'.out)
       have d0 := hq5.c0
       have d2 := hq5.fz 0
       rw [List.nil_append] at ho5
       obtain ⟨ao5, cap5, rfl, ht5⟩ := tx_of_owns ho5 (by rw [HE.out, Nat.zero_add])
       have hqs := q_store hq5 ht5
       rw [HE.out] at hqs ⊢
       have HQ5 : Hid (QAt B q most (m.take k) d i st (w5.setCell ⟨q, 0, none⟩ (.slice ao5 k cap5))) := hqs
       have HF5 : Hid (Fz q q w (w5.setCell ⟨q, 0, none⟩ (.slice ao5 k cap5))) := (fz_store hg5 rfl _)
       clear ho5 hb5 hg5 hq5 hqs)
    | fail)
  all_goals (
    go_wp2_with fail
    go_ret
    exact ⟨rfl, HQ5.out, HF5.out⟩)
theorem refUndo_any (B q most d i : Nat) (m : List ByteArray) (st z : Int) (w : World) (h : QAt B q most m d i st w) (hm : m.length ≤ 200) (hd : d ≤ m.length) (hB : B ≤ w.heap.size) :
    Calls Try.prog 24 #[.pointer (some ⟨q, 0, none⟩), .int .i64 z] w fun e w' => e = .returned (.bool (decide (0 ≤ z ∧ z ≤ ((m.length - d : Nat) : Int)))) ∧ QAt B q most (if 0 ≤ z ∧ z ≤ ((m.length - d : Nat) : Int) then m.take (m.length - z.toNat) else m) d i st w' ∧ Fz q q w w' := by
  by_cases hz : 0 ≤ z ∧ z ≤ ((m.length - d : Nat) : Int)
  · rw [if_pos hz, decide_eq_true hz]
    obtain ⟨j, rfl⟩ : ∃ j : Nat, z = (j : Int) := ⟨z.toNat, by omega⟩
    exact refUndo_ok B q most d i m st j w h hm hd hB (by omega)
  · rw [if_neg hz, decide_eq_false hz]
    refine (refUndo_bad B q most d i m st z w h hm hd hz).mono fun e w' ⟨he, k, hw⟩ => ?_
    subst he hw
    exact ⟨rfl, h.alike rfl, (Fz.refl _ _ w).alike rfl rfl rfl rfl⟩
/-- The number of the n-th text is h, seen from the confirmed one. -/
theorem num_ah {st h : Int} {d n : Nat} (hh : U h) (hd : d ≤ n) (hn : n ≤ 1000) : addI st (n : Int) = h ↔ ahI (addI st (d : Int)) h = ((n - d : Nat) : Int) := by
  unfold addI ahI U at *
  omega
set_option maxHeartbeats 1000000 in
theorem refConf_any (B q most d i : Nat) (m : List ByteArray) (st h : Int) (hs : U st) (hh : U h) (w : World) (hq : QAt B q most m d i st w) (hm : m.length ≤ 200) (hd : d ≤ m.length) :
    Calls Try.prog 17 #[.pointer (some ⟨q, 0, none⟩), .int .u32 h] w fun e w' => e = .returned (.tuple #[.int .i64 (cfN h (addI st d) (m.drop d)), .int .i64 (cfE h (addI st d) (m.drop d))]) ∧ QAt B q most m (if okC h (addI st d) (m.drop d) then d + (ahI (addI st d) h).toNat else d) i st w' ∧ Fz q q w w' := by
  have HQ : Hid _ := hq
  obtain ⟨ao, cap, h1, h2⟩ := hq
  have c1 := h1.c1
  have c0 := h1.c0
  have f1 := h1.fz 1
  have HN := fun (n : Nat) (hn : n ≤ 200) W (hW : QhAt q (.slice ao m.length cap) d i most st W) => num_any q d i most _ st (n : Int) hs ⟨by omega, by omega⟩ W hW
  obtain ⟨L, hL⟩ : ∃ L, m.length = L := ⟨_, rfl⟩
  have HH' : Hid (QhAt q (.slice ao L cap) d i most st w) := by rw [← hL]; exact h1
  have hlen : (m.drop d).length = L - d := by rw [List.length_drop, hL]
  have hau := ahI_u (addI st d) h
  obtain ⟨t, ht⟩ : ∃ t : Nat, ahI (addI st d) h = (t : Int) := ⟨(ahI (addI st d) h).toNat, by unfold U at hau; omega⟩
  have HNA : Hid (∀ n, d ≤ n → n ≤ 200 → (addI st (n : Int) = h ↔ t = n - d)) := fun n h3 h4 => by
    rw [num_ah hh h3 (by omega), ht]
    omega
  unfold cfN cfE okC
  simp only [ht, hlen, Int.toNat_natCast]
  simp only [hL] at HN c0 hm hd ⊢
  clear h1 h2 hL hlen hau ht
  go_enter Try.func17, Try.ntmps17
  go_wp2_with fail
  go_loopw [6, 7] (fun v _ wr => ∃ n : Nat, d ≤ n ∧ n ≤ L + 1 ∧ v = .int .i64 (n : Int) ∧ n ≤ d + t ∧ wr = w) (fun v _ _ => L + 1 - (intOf v).toNat)
  case atStart => exact ⟨d, Nat.le_refl _, by omega, rfl, by omega, rfl⟩
  case round =>
    obtain ⟨n, hdn, hnL, rfl, hnt, rfl⟩ := hrel
    by_cases hlt : n ≤ L
    · have hlt' : (n : Int) ≤ (L : Int) := by omega
      have HN1 := HN n (by omega) _ HH'.out
      by_cases hx : n = d + t
      · have he : addI st (n : Int) = h := (HNA.out n hdn (by omega)).2 (by omega)
        rw [he] at HN1
        subst hx
        have hok : (t : Int) ≤ ((L - d : Nat) : Int) := by omega
        have hw1 : IntKind.i64.wrap (((d + t : Nat) : Int) - (d : Int)) = (t : Int) := by simp only [IntKind.wrap_i64]; omega
        obtain ⟨n, hn⟩ : ∃ n, d + t = n := ⟨_, rfl⟩
        simp only [hn] at hw1 HN1 hlt' ⊢
        have HNN : Hid (d + t = n) := hn
        clear he hn
        go_wp2_with (go_at_call 26; refine HN1.mono ?_; rintro e w ⟨rfl, rfl⟩)
        go_ret2
        refine ⟨rfl, ?_, (Fz.refl q q _).setCell q 1 _ (.inl rfl)⟩
        rw [HNN.out]
        exact QAt.set1 HQ.out n
      · have hne : ¬ addI st (n : Int) = h := fun e => hx (by have := (HNA.out n hdn (by omega)).1 e; omega)
        obtain ⟨a, ha⟩ : ∃ a, addI st (n : Int) = a := ⟨_, rfl⟩
        rw [ha] at HN1 hne
        have hne' : (a == h) = false := by simpa using hne
        clear ha
        go_wp2_with (go_at_call 26; refine HN1.mono ?_; rintro e w ⟨rfl, rfl⟩)
        go_roundw
        case rel => exact ⟨n + 1, by omega, by omega, by go_num, by omega, trivial⟩
        case measure => simp [intOf]; omega
    · have hlt' : ¬ (n : Int) ≤ (L : Int) := by omega
      have hok : ¬ (t : Int) ≤ ((L - d : Nat) : Int) := by omega
      go_wp2_with fail
      go_ret2
      exact ⟨rfl, HQ.out, Fz.refl q q _⟩
end Go.Proofs.Ytjmggofcncladaa
