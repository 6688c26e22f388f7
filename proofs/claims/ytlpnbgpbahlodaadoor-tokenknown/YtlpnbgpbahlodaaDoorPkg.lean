/-
  Over this program: whether no number is in a row twice (token.Apart, and the document's own).
-/
import Derived.Test.YtlpnbgpbahlodaaDoorPkf
import Derived.Maps.OwnSet
import Derived.Maps.OwnOps
namespace Go.Proofs.YtlpnbgpbahlodaaDoor
open Go Go.RowKit Go.Maps
/-- No two of the first so many places hold the same. -/
def ndT (k : Nat) (l : List Nat) : Prop := ∀ (i j a : Nat), i < j → j < k → l[i]? = some a → l[j]? ≠ some a
def ND (l : List Nat) : Prop := ndT l.length l
theorem ndT_zero (l : List Nat) : ndT 0 l := fun _ _ _ _ h2 => absurd h2 (Nat.not_lt_zero _)
theorem ndT_succ {k : Nat} {l : List Nat} (h : ndT k l) (h2 : ∀ i, i < k → l[i]? ≠ l[k]?) : ndT (k + 1) l := by
  intro i j a h3 h4 h5 h6
  by_cases e : j = k
  · subst e
    exact h2 i h3 (by rw [h5, h6])
  · exact h i j a h3 (by omega) h5 h6
theorem nd_not {k i a : Nat} {l : List Nat} (hk : k < l.length) (h1 : i < k) (h2 : l[i]? = some a) (h3 : l[k]? = some a) : ¬ ND l := fun h => h i k a h1 hk h2 h3
theorem take_has {l : List Nat} {k z : Nat} : (l.take k).contains z = true ↔ ∃ i, i < k ∧ l[i]? = some z := by
  rw [List.contains_iff_mem, List.mem_iff_getElem?]
  constructor
  · rintro ⟨i, hi⟩
    rw [List.getElem?_take] at hi
    split at hi
    · exact ⟨i, by assumption, hi⟩
    · cases hi
  · rintro ⟨i, h1, h2⟩
    exact ⟨i, by rw [List.getElem?_take, if_pos h1]; exact h2⟩
theorem take_next {l : List Nat} {k a z : Nat} (h : l[k]? = some a) : (l.take (k + 1)).contains z = ((l.take k).contains z || z == a) := by
  have e : l.take (k + 1) = l.take k ++ [a] := by rw [List.take_add_one, h]; rfl
  rw [e, List.contains_eq_any_beq, List.contains_eq_any_beq, List.any_append]
  simp
theorem wfU {z : Nat} (h : U z) : (Lit.int .u64 (z : Int)).wf = true := by
  have e1 : IntKind.u64.min = 0 := rfl
  have e2 : IntKind.u64.max = 18446744073709551615 := rfl
  unfold U at h
  simp [Lit.wf, e1, e2]
  omega
theorem law22 : Keyed Tryd.prog 22 := int_keyed Tryd.underlying22
theorem zero4 (w : World) : (zeroValue 4).run Tryd.prog w = .ok (.bool false) w := by kernel_rfl
theorem keyU {z : Nat} (h : U z) : keyOf Tryd.prog 22 (.int .u64 (z : Int)) = some (.int .u64 (z : Int)) := keyOf_int_mk Tryd.underlying22 (wfU h)
theorem plain_bool_inv {v : Value} {z : DataW Unit × List MemPlace} (h : plainElem Tryd.prog 4 v = some z) : ∃ x, v = .bool x ∧ z = (.lit (.bool x), []) := by
  unfold plainElem at h
  rw [Tryd.underlying4] at h
  cases v <;> simp at h
  exact ⟨_, rfl, h.symm⟩
/-- A set of numbers in block m. -/
def SetU (w : World) (m n : Nat) (l : List Nat) : Prop :=
  ∃ D : DataW Unit, w.ownsMap Tryd.prog 22 (plainElem Tryd.prog 4) m n D ∧ ∀ z : Nat, D.atKey (.int .u64 (z : Int)) (.lit (.bool false)) = .lit (.bool (l.contains z))
theorem set_made (w : World) : SetU (w.alloc (.map #[] 0)) w.heap.size 0 [] := ⟨.map [], World.ownsMap_made _ _ _ _, fun _ => rfl⟩
theorem SetU.look {w : World} {m n : Nat} {l : List Nat} (h : SetU w m n l) {z : Nat} (hz : U z) : (Instr.lookup 47 (.map (some m)) (.int .u64 (z : Int)) false).run Tryd.prog w = .ok (.bool (l.contains z)) w := by
  obtain ⟨D, h1, h2⟩ := h
  obtain ⟨v, ps, hrun, hv⟩ := h1.lookup law22 Tryd.underlying47 (zero4 w) (plainElem_bool Tryd.underlying4 false) (keyU hz)
  obtain ⟨x, rfl, hx⟩ := plain_bool_inv hv
  rw [h2] at hx
  simp only [Prod.mk.injEq, DataW.lit.injEq, Lit.bool.injEq] at hx
  rw [hrun, hx.1]
theorem lit_ne {y z : Nat} (h : y ≠ z) : (Lit.int .u64 (y : Int)) ≠ .int .u64 (z : Int) := fun e => h (by
  have := (Lit.int.inj e).2
  omega)
theorem wpList_update_set {w : World} {ops : Array Oper} {rest : List Oper} {o : Oper} {a : Act} {Q : Exit → Act → World → Prop} (hg : o.guard = none) (m x v : Operand) (hop : o.op = Op.mapUpdate 47 m x v) (b c : Nat) (l l' : List Nat)
    (hm : a.eval m = .map (some b)) (h : SetU w b c l) (hc : c ≤ 1000) (z : Nat) (hx : a.eval x = .int .u64 (z : Int)) (hv : a.eval v = .bool true) (hz : U z) (hl : ∀ y, l'.contains y = (l.contains y || y == z))
    (hK : ∀ w', SetU w' b (c + 1) l' → w.grownBy w' (some b) → wpList Tryd.prog ops Q rest (a.put o.dst undef) w') : wpList Tryd.prog ops Q (o :: rest) a w := by
  obtain ⟨D, h1, h2⟩ := h
  have td := h1.isMap
  refine wpList_mapUpdate_own w hg m x v 47 hop 22 4 law22 Tryd.underlying47 _ b c D hm h1 (by unfold maxLen; omega) _ _ _ hx hv (keyU hz) _ [] (plainElem_bool Tryd.underlying4 true) fun w' ho hgr => hK w' ⟨_, ho, fun y => ?_⟩ hgr
  rw [hl]
  by_cases e : y = z
  · subst e
    rw [Maps.atKey_put_same td (by trivial)]
    simp
  · rw [Maps.atKey_put_other (lit_ne e), h2]
    simp [e]
set_option maxHeartbeats 1000000 in
set_option maxRecDepth 100000 in
theorem apart_any (ao : Option Addr) (cap : Nat) (l : List Nat) (w : World) (h : RowU w ao l) (hl : l.length ≤ 1000) (hu : ∀ z ∈ l, U z) (r : Bool) (hr : r = true ↔ ND l) :
    Calls Tryd.prog 15 #[.slice ao l.length cap] w fun e w' => e = .returned (.bool r) ∧ Below w.heap.size w w' := by
  have HR : Hid (r = true ↔ ND l) := hr
  have HROW : Hid (RowU w ao l) := h
  have HU : Hid (∀ z ∈ l, U z) := hu
  obtain ⟨n, hn⟩ : ∃ n, l.length = n := ⟨_, rfl⟩
  rw [hn] at hl ⊢
  have HN : Hid (l.length = n) := hn
  obtain ⟨m, hm⟩ : ∃ m, w.heap.size = m := ⟨_, rfl⟩
  have HM : Hid (w.heap.size = m) := hm
  have HS0 : Hid (SetU (w.alloc (.map #[] 0)) m 0 (l.take 0)) := by rw [← hm]; exact set_made w
  have HB0 : Hid (Below w.heap.size w (w.alloc (.map #[] 0))) := (Below.refl _ w).alloc (Nat.le_refl _) _
  clear h hn hr hu
  have hmm := @run_makeMap Tryd.prog
  go_enter Tryd.func15, Tryd.ntmps15
  go_wp2_with fail
  clear hm
  go_loopw [5, 9] (fun _ i wr => ∃ k : Nat, k ≤ n ∧ i = .int .i64 (k : Int) ∧ SetU wr m k (l.take k) ∧ Below w.heap.size w wr ∧ Hid (ndT k l)) (fun _ i _ => n - (intOf i).toNat)
  case atStart => exact ⟨0, Nat.zero_le _, rfl, HS0.out, HB0.out, ndT_zero l⟩
  case round =>
    obtain ⟨k, hk, rfl, hs, hb, HD⟩ := hrel
    have HS : Hid (SetU wr m k (l.take k)) := hs
    have HB : Hid (Below w.heap.size w wr) := hb
    by_cases hlt : k < n
    · obtain ⟨a, ha⟩ : ∃ a, l[k]? = some a := ⟨_, List.getElem?_eq_getElem (by rw [HN.out]; exact hlt)⟩
      have hua : U a := HU.out a (List.mem_of_getElem? ha)
      obtain ⟨ad, rfl, k1⟩ := (HROW.out.below hb).at ha
      have hlk := hs.look hua
      have hlt' : (k : Int) < (n : Int) := by omega
      have HUA : Hid (U a) := hua
      cases hc : (l.take k).contains a with
      | true =>
        rw [hc] at hlk
        have HE : Hid (r = false) := by
          have h1 := take_has.1 hc
          obtain ⟨i, h2, h3⟩ := h1
          have h4 := nd_not (by rw [HN.out]; exact hlt) h2 h3 ha
          cases hr : r with
          | false => rfl
          | true => exact absurd (HR.out.1 hr) h4
        obtain rfl := HE.out
        clear hs hb ha hua hc
        go_wp2_with fail
        go_ret
        exact ⟨rfl, HB.out⟩
      | false =>
        rw [hc] at hlk
        have HNX : Hid (∀ y, (l.take (k + 1)).contains y = ((l.take k).contains y || y == a)) := fun y => take_next ha
        have HD' : Hid (ndT (k + 1) l) := ndT_succ HD.out fun i hi e => by
          rw [ha] at e
          rw [take_has.2 ⟨i, hi, e⟩] at hc
          cases hc
        clear hs hb ha hua hc
        go_wp2_with (first
          | (at_mapUpdate; refine wpList_update_set rfl _ _ _ rfl m k (l.take k) (l.take (k + 1)) rfl HS.out (by omega) a rfl rfl HUA.out HNX.out ?_; intro w1 hs1 hg1; have HS1 : Hid (SetU w1 m (k + 1) (l.take (k + 1))) := hs1; have HG1 : Hid (wr.grownBy w1 (some m)) := hg1; clear hs1 hg1))
        refine ⟨⟨k + 1, by omega, by go_num, HS1.out, ?_, HD'⟩, by simp [intOf]; omega⟩
        exact HB.out.grown HG1.out HB.out.size (fun q hq => by cases hq; rw [HM.out]; exact Nat.le_refl _)
    · obtain rfl : k = n := by omega
      have hlt' : ¬ (k : Int) < (k : Int) := by omega
      have HE : Hid (r = true) := HR.out.2 (by unfold ND; rw [HN.out]; exact HD.out)
      obtain rfl := HE.out
      clear hs hb hlt
      go_wp2_with fail
      go_ret
      exact ⟨rfl, HB.out⟩
set_option maxHeartbeats 1000000 in
set_option maxRecDepth 100000 in
theorem refApart_any (ao : Option Addr) (cap : Nat) (l : List Nat) (w : World) (h : RowU w ao l) (hl : l.length ≤ 1000) (r : Bool) (hr : r = true ↔ ND l) :
    Calls Tryd.prog 16 #[.slice ao l.length cap] w fun e w' => e = .returned (.bool r) ∧ ∃ k, w' = w.drewN k := by
  have HR : Hid (r = true ↔ ND l) := hr
  have HROW : Hid (RowU w ao l) := h
  obtain ⟨n, hn⟩ : ∃ n, l.length = n := ⟨_, rfl⟩
  rw [hn] at hl ⊢
  have HN : Hid (l.length = n) := hn
  clear h hn hr
  go_enter Tryd.func16, Tryd.ntmps16
  go_wp2_with fail
  go_loopw [3, 4] (fun i _ wr => ∃ k : Nat, k ≤ n ∧ i = .int .i64 (k : Int) ∧ (∃ d, wr = w.drewN d) ∧ Hid (ndT k l)) (fun i _ _ => n - (intOf i).toNat)
  case atStart => exact ⟨0, Nat.zero_le _, rfl, ⟨0, rfl⟩, ndT_zero l⟩
  case round =>
    obtain ⟨k, hk, rfl, ⟨d, rfl⟩, HD⟩ := hrel
    by_cases hlt : k < n
    · obtain ⟨a, ha⟩ : ∃ a, l[k]? = some a := ⟨_, List.getElem?_eq_getElem (by rw [HN.out]; exact hlt)⟩
      obtain ⟨ad, rfl, k1⟩ := HROW.out.at ha
      have HA : Hid (l[k]? = some a) := ha
      have hlt' : (k : Int) < (n : Int) := by omega
      clear ha
      go_wp2_with fail
      go_loopw [4] (fun j wr => ∃ q : Nat, q ≤ k ∧ j = .int .i64 (q : Int) ∧ (∃ d, wr = w.drewN d) ∧ Hid (∀ i, i < q → l[i]? ≠ l[k]?)) (fun j _ => k - (intOf j).toNat)
      case atStart => exact ⟨0, Nat.zero_le _, rfl, ⟨d, rfl⟩, fun i hi => absurd hi (Nat.not_lt_zero _)⟩
      case round =>
        obtain ⟨q, hq, rfl, ⟨d2, rfl⟩, HQ⟩ := hrel
        by_cases hqk : q < k
        · obtain ⟨b, hb⟩ : ∃ b, l[q]? = some b := ⟨_, List.getElem?_eq_getElem (by rw [HN.out]; omega)⟩
          obtain ⟨ad2, e2, k2⟩ := HROW.out.at hb
          cases e2
          have hq' : (q : Int) < (k : Int) := by omega
          have hqn : (q : Int) < (n : Int) := by omega
          by_cases hab : a = b
          · have heq : ((a : Int) == (b : Int)) = true := by rw [beq_iff_eq]; omega
            have HE : Hid (r = false) := by
              have h4 := nd_not (by rw [HN.out]; exact hlt) hqk hb (by rw [HA.out, hab])
              cases hr : r with
              | false => rfl
              | true => exact absurd (HR.out.1 hr) h4
            obtain rfl := HE.out
            have he2 : (a : Int) = (b : Int) := by omega
            clear hb hab
            go_wp2_with fail
            go_quiet (fail)
            go_wp2_with fail
            go_ret
            exact ⟨rfl, _, World.drewN_drewN _ _ _⟩
          · have heq : ((a : Int) == (b : Int)) = false := by rw [beq_eq_false_iff_ne]; omega
            have he2 : ¬ (a : Int) = (b : Int) := by omega
            have HQ' : Hid (∀ i, i < q + 1 → l[i]? ≠ l[k]?) := fun i hi => by
              by_cases e : i = q
              · subst e; rw [hb, HA.out]; intro h; exact hab (Option.some.inj h).symm
              · exact HQ.out i (by omega)
            clear hb hab
            go_wp2_with fail
            go_quiet (fail)
            go_wp2_with fail
            go_roundw
            case rel => exact ⟨q + 1, by omega, by go_num, ⟨_, rfl⟩, HQ'⟩
            case measure => simp [intOf]; omega
        · obtain rfl : q = k := by omega
          have hq' : ¬ (q : Int) < (q : Int) := by omega
          have HD' : Hid (ndT (q + 1) l) := ndT_succ HD.out HQ.out
          go_wp2_with fail
          go_roundw
          case rel => exact ⟨q + 1, by omega, by go_num, ⟨_, rfl⟩, HD'⟩
          case measure => simp [intOf]; omega
    · obtain rfl : k = n := by omega
      have hlt' : ¬ (k : Int) < (k : Int) := by omega
      have HE : Hid (r = true) := HR.out.2 (by unfold ND; rw [HN.out]; exact HD.out)
      obtain rfl := HE.out
      clear hlt
      go_wp2_with fail
      go_ret
      exact ⟨rfl, d, rfl⟩
end Go.Proofs.YtlpnbgpbahlodaaDoor
