/-
  Scripts: how one lies in memory, the first steps of it, a step's kind and its number over this program; two ledgers that lie apart.
-/
import Derived.Test.YtjmggofcncladaaLf
namespace Go.Proofs.Ytjmggofcncladaa
open Go Go.RowKit
/-- A step of a script. -/
structure Sp where
  k : Int
  n : Int
  h : Int
  on : Bool
  s : ByteArray
/-- A script, as it lies. -/
def ArgOps (w : World) (ao : Option Addr) (ts : List Sp) : Prop :=
  ∀ i t, ts[i]? = some t → ∃ g off, ao = some ⟨g, off, none⟩ ∧ g < w.heap.size ∧ w.cell? ⟨g, off + i * 5, none⟩ = some (.int .i64 t.k) ∧ w.cell? ⟨g, off + i * 5 + 1, none⟩ = some (.int .i64 t.n) ∧ w.cell? ⟨g, off + i * 5 + 2, none⟩ = some (.int .u32 t.h) ∧ w.cell? ⟨g, off + i * 5 + 3, none⟩ = some (.bool t.on) ∧ w.cell? ⟨g, off + i * 5 + 4, none⟩ = some (.string t.s) ∧ U t.h ∧ N t.n
theorem early_any (ao : Option Addr) (n cap : Nat) (hcap : n ≤ cap) (w : World) : Calls Try.prog 11 #[.slice ao n cap] w fun e w' => e = .returned (.slice ao (min n 200) cap) ∧ w' = w := by
  obtain ⟨k, hk⟩ : ∃ k, min n 200 = k := ⟨_, rfl⟩
  have hm : (if (200 : Int) < (n : Int) then (200 : Int) else (n : Int)) = (k : Int) := by split <;> omega
  have k0 : (0 : Int) ≤ (k : Int) := by omega
  have k1 : (k : Int) ≤ (cap : Int) := by omega
  rw [hk]
  clear hk
  go_enter Try.func11, Try.ntmps11
  go_wp2_with fail
  go_ret
  exact ⟨rfl, rfl⟩
/-- A step's kind. -/
def kd (k : Int) : Nat := ((IntKind.u64.wrap k).tmod 5).toNat
theorem kd_eq (k : Int) : (IntKind.u64.wrap k).tmod 5 = (kd k : Int) := by
  unfold kd
  rw [IntKind.wrap_u64, Int.tmod_eq_emod_of_nonneg (by omega)]
  omega
theorem kd_lt (k : Int) : kd k < 5 := by
  have := kd_eq k
  rw [IntKind.wrap_u64, Int.tmod_eq_emod_of_nonneg (by omega)] at this
  omega
theorem kind_any (k n h : Int) (on : Bool) (s : ByteArray) (w : World) : Calls Try.prog 13 #[.agg #[.int .i64 k, .int .i64 n, .int .u32 h, .bool on, .string s]] w fun e w' => e = .returned (.int .i64 (kd k : Int)) ∧ Below w.heap.size w w' := by
  have h1 := kd_eq k
  have h2 := kd_lt k
  obtain ⟨K, hK⟩ : ∃ K, kd k = K := ⟨_, rfl⟩
  rw [hK] at h1 h2 ⊢
  have h3 : IntKind.i64.wrap (K : Int) = (K : Int) := by simp only [IntKind.wrap_i64]; omega
  clear hK
  go_enter Try.func13, Try.ntmps13
  go_wp2_with fail
  go_ret
  exact ⟨rfl, (Below.refl _ w).alloc (Nat.le_refl _) _⟩
/-- A step's number. -/
def numI (on : Bool) (h c : Int) : Int := if on then addI c (h % 16) else h
theorem numI_u {on : Bool} {h c : Int} (hh : U h) : U (numI on h c) := by
  unfold numI
  split
  · exact addI_u _ _
  · exact hh
set_option maxHeartbeats 1000000 in
theorem number_any (k n h : Int) (on : Bool) (s : ByteArray) (g r : Nat) (c kk : Int) (hh : U h) (hc : U c) (w : World) (hl : LhAt g r c kk w) :
    Calls Try.prog 12 #[.agg #[.int .i64 k, .int .i64 n, .int .u32 h, .bool on, .string s], .pointer (some ⟨g, 0, none⟩)] w fun e w' => e = .returned (.int .u32 (numI on h c)) ∧ Below w.heap.size w w' := by
  have hgl := lt_of_heap hl
  have HL : Hid (∀ W : World, W.heap = (w.alloc (.cells #[.int .i64 k, .int .i64 n, .int .u32 h, .bool on, .string s] 31)).heap → LhAt g r c kk W) := fun W hW => by
    show _ = _
    rw [hW, Below.heap_alloc _ _ _ hgl]
    exact hl
  have HC := fun W (hW : LhAt g r c kk W) => confd_any g r c kk W hW
  unfold U at hh
  cases on with
  | false =>
    show Calls Try.prog 12 _ w fun e w' => e = .returned (.int .u32 h) ∧ _
    clear hl HL HC
    go_enter Try.func12, Try.ntmps12
    go_wp2_with fail
    go_ret
    exact ⟨rfl, (Below.refl _ w).alloc (Nat.le_refl _) _⟩
  | true =>
    show Calls Try.prog 12 _ w fun e w' => e = .returned (.int .u32 (addI c (h % 16))) ∧ _
    obtain ⟨m, hm⟩ : ∃ m, h.tmod 16 = m := ⟨_, rfl⟩
    have hm1 : h % 16 = m := by rw [← hm, Int.tmod_eq_emod_of_nonneg hh.1]
    have hm2 : 0 ≤ m ∧ m < 16 := by omega
    have hm3 : IntKind.i64.wrap m = m := by simp only [IntKind.wrap_i64]; omega
    have HA := fun W => refAdd_any c m hc ⟨by omega, by omega⟩ W
    rw [hm1]
    obtain ⟨a, ha⟩ : ∃ a, addI c m = a := ⟨_, rfl⟩
    rw [ha] at HA ⊢
    clear hl ha hm1 hh hc hgl
    go_enter Try.func12, Try.ntmps12
    go_wp2_with fail
    go_quiet (first | (go_at_call 27; refine Calls.quiet_of_same (HC _ ?_); exact HL.out _ rfl) | (go_at_call 30; exact Calls.quiet_of_same (HA _)))
    go_wp2_with fail
    go_ret
    exact ⟨rfl, below_drewN ((Below.refl _ w).alloc (Nat.le_refl _) _)⟩
/-- A ledger stays behind a call that writes another one's blocks alone. -/
theorem LdAt.hi {g r p n Q g' r' p' : Nat} {l : List ByteArray} {c k : Int} {w w' : World} (h : LdAt g r p n l c k w) (hf : Fl g' r' p' w w') (h1 : Q ≤ g ∧ Q ≤ r ∧ Q ≤ p) (h2 : g' < Q ∧ r' < Q ∧ p' < Q) : LdAt g r p n l c k w' :=
  h.keep (hf.2 g h.lt.1 (by omega) (by omega) (by omega)) (hf.2 r h.lt.2.1 (by omega) (by omega) (by omega)) (hf.2 p h.lt.2.2 (by omega) (by omega) (by omega))
theorem LdAt.lo {g r p n Q g' r' p' : Nat} {l : List ByteArray} {c k : Int} {w w' : World} (h : LdAt g r p n l c k w) (hf : Fl g' r' p' w w') (h1 : g < Q ∧ r < Q ∧ p < Q) (h2 : Q ≤ g' ∧ Q ≤ r' ∧ Q ≤ p') : LdAt g r p n l c k w' :=
  h.keep (hf.2 g h.lt.1 (by omega) (by omega) (by omega)) (hf.2 r h.lt.2.1 (by omega) (by omega) (by omega)) (hf.2 p h.lt.2.2 (by omega) (by omega) (by omega))
theorem add_swap (c f n : Int) : addI (addI c n) f = addI (addI c f) n := by unfold addI; omega
theorem ah_shift (c h f : Int) : ahI (addI c f) (addI h f) = ahI c h := by unfold ahI addI; omega
theorem ok_shift (h c f : Int) (l : List ByteArray) : okC (addI h f) (addI c f) l = okC h c l := by unfold okC; rw [ah_shift]
theorem cfN_shift (h c f : Int) (l : List ByteArray) : cfN (addI h f) (addI c f) l = cfN h c l := by unfold cfN; simp only [ok_shift, ah_shift]
theorem cfE_shift (h c f : Int) (l : List ByteArray) : cfE (addI h f) (addI c f) l = cfE h c l := by unfold cfE; simp only [ok_shift]
theorem cfL_shift (h c f : Int) (l : List ByteArray) : cfL (addI h f) (addI c f) l = cfL h c l := by unfold cfL; simp only [ok_shift, ah_shift]
theorem cfC_shift (h c f : Int) (l : List ByteArray) : cfC (addI h f) (addI c f) l = addI (cfC h c l) f := by unfold cfC; simp only [ok_shift]; split <;> rfl
end Go.Proofs.Ytjmggofcncladaa
