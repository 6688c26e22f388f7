/-
  The contract of tidewaterref02.Same over this program, at tokens that are the same: for all tokens that lie in memory.
-/
import Derived.Test.YtdoekpodichhdaaDoorLawc
namespace Go.Proofs.YtdoekpodichhdaaDoor
open Go.RowKit
theorem drew_drew (w : World) (a b : Nat) : (w.drewN a).drewN b = w.drewN (a + b) := by simp [World.drewN, Nat.add_assoc]
/-- The cells of token j of tokens that lie in memory. -/
theorem tok_cells {B : Nat} {ao : Option Addr} {n cap : Nat} {l : List Tok} {w : World} (h : ToksAt 53 B (.slice ao n cap) l w) (j : Nat) (hj : j < l.length) :
    ∃ g t aoa capa, ao = some ⟨g, 0, none⟩ ∧ l[j]? = some t ∧ w.cell? ⟨g, j * 4, none⟩ = some (.int .i64 t.kind) ∧ w.cell? ⟨g, j * 4 + 1, none⟩ = some (.string ⟨t.nm.toArray⟩) ∧ w.cell? ⟨g, j * 4 + 2, none⟩ = some (.slice aoa t.attrs.length capa) ∧
      w.cell? ⟨g, j * 4 + 3, none⟩ = some (.string ⟨t.text.toArray⟩) ∧ AttrsAt B (.slice aoa t.attrs.length capa) t.attrs w := by
  obtain ⟨xs, ho, hc⟩ := h
  obtain rfl := owns_n ho
  have hp : l[j]? = some l[j] := List.getElem?_eq_getElem hj
  obtain ⟨v, x0, x1, x2, x3, hv⟩ := tok_get j _ hc hp
  obtain ⟨aoa, capa, rfl⟩ := owns_shape hv
  rcases ho.2 with ⟨q1, q2⟩ | ⟨g, cap2, cur, q1, _⟩
  · omega
  obtain ⟨rfl, _, rfl⟩ := Value.slice.inj q1
  exact ⟨g, l[j], aoa, capa, rfl, hp, by rw [World.ownsRow.cellAt ho _ (by omega)]; exact x0, by rw [World.ownsRow.cellAt ho _ (by omega)]; exact x1, by rw [World.ownsRow.cellAt ho _ (by omega)]; exact x2, by rw [World.ownsRow.cellAt ho _ (by omega)]; exact x3, hv⟩
set_option maxHeartbeats 8000000 in
set_option maxRecDepth 100000 in
theorem same_any (B1 B2 : Nat) (ao1 ao2 : Option Addr) (n1 n2 cap1 cap2 : Nat) (l : List Tok) (w : World) (h1 : ToksAt 53 B1 (.slice ao1 n1 cap1) l w) (h2 : ToksAt 53 B2 (.slice ao2 n2 cap2) l w) (hl : l.length ≤ 1000000) (hat : ∀ t ∈ l, t.attrs.length ≤ 1000000) :
    Calls Tryd.prog 14 #[.slice ao1 n1 cap1, .slice ao2 n2 cap2] w fun e w' => e = .returned (.bool true) ∧ Below w.heap.size w w' := by
  have e1 : n1 = l.length := owns_n h1.choose_spec.1
  have e2 : n2 = l.length := owns_n h2.choose_spec.1
  subst e1
  subst e2
  have K1 : Hid _ := h1
  have K2 : Hid _ := h2
  have KA : Hid _ := hat
  clear h1 h2 hat
  go_enter Tryd.func14, Tryd.ntmps14
  go_wp2
  go_loopw [5] (fun i wr => ∃ j m : Nat, j ≤ l.length ∧ i = .int .i64 j ∧ wr = w.drewN m) (fun i _ => l.length - (intOf i).toNat)
  case atStart => exact ⟨0, 0, Nat.zero_le _, rfl, rfl⟩
  case round =>
    obtain ⟨j, m, hj, rfl, rfl⟩ := hrel
    by_cases hlt : j < l.length
    · obtain ⟨g, t, aoa, capa, rfl, ht, a0, a1, a2, a3, ha⟩ := tok_cells K1.out j hlt
      obtain ⟨g', t', aob, capb, rfl, ht', b0, b1, b2, b3, hb⟩ := tok_cells K2.out j hlt
      obtain rfl : t = t' := Option.some.inj (ht.symm.trans ht')
      have hal := KA.out t (List.mem_of_getElem? ht)
      have hi0 : (0 : Int) ≤ (j : Int) := Int.natCast_nonneg _
      have hi1 : (j : Int) < (l.length : Int) := by omega
      clear ht ht'
      obtain ⟨W, hW⟩ : ∃ W, W = w.drewN m := ⟨_, rfl⟩
      have A0 : W.cell? ⟨g, j * 4, none⟩ = some (.int .i64 t.kind) := by rw [hW]; exact a0
      have A1 : W.cell? ⟨g, j * 4 + 1, none⟩ = some (.string ⟨t.nm.toArray⟩) := by rw [hW]; exact a1
      have A2 : W.cell? ⟨g, j * 4 + 2, none⟩ = some (.slice aoa t.attrs.length capa) := by rw [hW]; exact a2
      have A3 : W.cell? ⟨g, j * 4 + 3, none⟩ = some (.string ⟨t.text.toArray⟩) := by rw [hW]; exact a3
      have B0 : W.cell? ⟨g', j * 4, none⟩ = some (.int .i64 t.kind) := by rw [hW]; exact b0
      have B1 : W.cell? ⟨g', j * 4 + 1, none⟩ = some (.string ⟨t.nm.toArray⟩) := by rw [hW]; exact b1
      have B2 : W.cell? ⟨g', j * 4 + 2, none⟩ = some (.slice aob t.attrs.length capb) := by rw [hW]; exact b2
      have B3 : W.cell? ⟨g', j * 4 + 3, none⟩ = some (.string ⟨t.text.toArray⟩) := by rw [hW]; exact b3
      rw [← hW]
      have HW : Hid _ := hW
      clear hW a0 a1 a2 a3 b0 b1 b2 b3
      go_wp2
      go_quiet (fail)
      go_wp2
      go_loopw [6] (fun i wr => ∃ k m2 : Nat, k ≤ t.attrs.length ∧ i = .int .i64 k ∧ wr = W.drewN m2) (fun i _ => t.attrs.length - (intOf i).toNat)
      case atStart => exact ⟨0, nq, Nat.zero_le _, rfl, rfl⟩
      case round =>
        obtain ⟨k, m2, hk, rfl, rfl⟩ := hrel
        obtain ⟨V, hV⟩ : ∃ V, V = W.drewN m2 := ⟨_, rfl⟩
        have C2 : V.cell? ⟨g, j * 4 + 2, none⟩ = some (.slice aoa t.attrs.length capa) := by rw [hV]; exact A2
        have D2 : V.cell? ⟨g', j * 4 + 2, none⟩ = some (.slice aob t.attrs.length capb) := by rw [hV]; exact B2
        by_cases hkl : k < t.attrs.length
        · obtain ⟨ga, p, rfl, hp, c0, c1⟩ := attr_cells ha rfl k hkl
          obtain ⟨gb, p', rfl, hp', d0, d1⟩ := attr_cells hb rfl k hkl
          obtain rfl : p = p' := Option.some.inj (hp.symm.trans hp')
          have E0 : V.cell? ⟨ga, k * 2, none⟩ = some (.string ⟨p.1.toArray⟩) := by rw [hV, HW.out]; exact c0
          have E1 : V.cell? ⟨ga, k * 2 + 1, none⟩ = some (.string ⟨p.2.toArray⟩) := by rw [hV, HW.out]; exact c1
          have F0 : V.cell? ⟨gb, k * 2, none⟩ = some (.string ⟨p.1.toArray⟩) := by rw [hV, HW.out]; exact d0
          have F1 : V.cell? ⟨gb, k * 2 + 1, none⟩ = some (.string ⟨p.2.toArray⟩) := by rw [hV, HW.out]; exact d1
          have hk0 : (0 : Int) ≤ (k : Int) := Int.natCast_nonneg _
          have hk1 : (k : Int) < (t.attrs.length : Int) := by omega
          rw [← hV]
          have HV : Hid _ := hV
          clear hV c0 c1 d0 d1 hp hp' A0 A1 A3 B0 B1 B3 A2 B2 ha hb
          go_wp2
          go_quiet (fail)
          go_wp2
          go_roundw
          case rel => exact ⟨k + 1, m2 + nq, by omega, by go_num, by rw [HV.out, drew_drew]⟩
          case measure => simp [intOf]; omega
        · rw [← hV]
          have HV : Hid _ := hV
          clear hV A0 A1 A3 B0 B1 B3 A2 B2 ha hb
          go_wp2
          go_roundw
          case rel => exact ⟨j + 1, m + m2, by omega, by go_num, by rw [HV.out, HW.out, drew_drew]⟩
          case measure => simp [intOf]; omega
    · go_wp2
      go_ret
      exact ⟨rfl, belowN _ _⟩
end Go.Proofs.YtdoekpodichhdaaDoor
