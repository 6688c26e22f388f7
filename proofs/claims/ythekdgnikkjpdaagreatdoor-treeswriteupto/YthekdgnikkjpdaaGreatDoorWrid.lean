/-
  The contracts of trees.escaped and attrsText over this program: for right texts of at most 2000000 bytes.
-/
import Derived.Test.YthekdgnikkjpdaaGreatDoorWric
import Derived.Deep.RegionHeld3
namespace Go.Proofs.YthekdgnikkjpdaaGreatDoor
open Go.RowKit
def attrT (p : List UInt8 × List UInt8) : List UInt8 := [32] ++ p.1 ++ [61, 34] ++ esc p.2 ++ [34]
def attrsT (l : List (List UInt8 × List UInt8)) : List UInt8 := l.flatMap attrT
set_option maxHeartbeats 400000 in
theorem escaped_any (s : ByteArray) (w : World) (hT : Tabs w) (hs : s.size ≤ 2000000) (hr : right s.data.toList = true) :
    Calls Tryz.prog 17 #[.string s] w fun e w' => e = .returned (.string ⟨(esc s.data.toList).toArray⟩) ∧ Below w.heap.size w w' := by
  have H := escape_yes s w hT hs hr
  clear hr
  go_enter Tryz.func17, Tryz.ntmps17
  go_wp2_with (go_at_call 34; refine H.mono ?_; rintro e w1 ⟨rfl, hb1⟩)
  go_ret
  exact ⟨rfl, hb1⟩
theorem attrsOk_all : ∀ (l : List (List UInt8 × List UInt8)) (kn : List (List UInt8)), attrsOk kn l = true → ∀ p ∈ l, name p.1 = true ∧ right p.2 = true
  | [], _, _, _, h => by simp at h
  | q :: l, kn, h, p, hp => by
    simp only [attrsOk, Bool.and_eq_true] at h
    rcases List.mem_cons.1 hp with rfl | hp
    · exact ⟨h.1.1.2, h.1.2⟩
    · exact attrsOk_all l _ h.2 p hp
theorem name_len {l : List UInt8} (h : name l = true) : l.length ≤ 16 := by
  unfold name at h
  simp at h
  omega
theorem attrT_len {p : List UInt8 × List UInt8} (h1 : p.1.length ≤ 16) (h2 : p.2.length ≤ 2000000) : (attrT p).length ≤ 12000020 := by
  have := (esc_length p.2).2
  simp [attrT]
  omega
theorem attrsT_len : ∀ (l : List (List UInt8 × List UInt8)), (∀ p ∈ l, p.1.length ≤ 16 ∧ p.2.length ≤ 2000000) → (attrsT l).length ≤ l.length * 12000020
  | [], _ => by simp [attrsT]
  | p :: l, h => by
    have h1 := attrT_len (h p (by simp)).1 (h p (by simp)).2
    have h2 := attrsT_len l fun q hq => h q (by simp [hq])
    have e : attrsT (p :: l) = attrT p ++ attrsT l := by simp [attrsT]
    rw [e]
    simp
    omega
theorem attrsT_snoc (l : List (List UInt8 × List UInt8)) (j : Nat) (p : List UInt8 × List UInt8) (h : l[j]? = some p) : attrsT (l.take (j + 1)) = attrsT (l.take j) ++ attrT p := by
  obtain ⟨hj, e⟩ := List.getElem?_eq_some_iff.1 h
  rw [List.take_succ_eq_append_getElem hj, e]
  simp [attrsT]
set_option maxHeartbeats 2000000 in
set_option maxRecDepth 100000 in
theorem attrsText_any {P : Nat → Prop} (ao : Option Addr) (cap : Nat) (l : List (List UInt8 × List UInt8)) (w : World) (hT : Tabs w) (h : Row P w (.slice ao l.length cap) l.length (pairCells l)) (hs : ∀ p ∈ l, p.1.length ≤ 16 ∧ p.2.length ≤ 2000000) (hr : ∀ p ∈ l, right p.2 = true) (hlen : l.length ≤ 6) :
    Calls Tryz.prog 16 #[.slice ao l.length cap] w fun e w' => e = .returned (.string ⟨(attrsT l).toArray⟩) ∧ Below w.heap.size w w' := by
  have hT3 := hT.size
  have HR : Hid (Row _ _ _ _ _) := h
  have HS : Hid _ := hs
  have HRR : Hid _ := hr
  obtain ⟨n, hn⟩ : ∃ n, l.length = n := ⟨_, rfl⟩
  have hn6 : n ≤ 6 := by omega
  rw [hn]
  have HN : Hid _ := hn
  clear h hs hr hn hlen
  go_enter Tryz.func16, Tryz.ntmps16
  go_wp2
  go_loopw [3, 8] (fun v i wr => ∃ (j : Nat) (t : ByteArray), j ≤ n ∧ i = .int .i64 j ∧ v = .string t ∧ t.data.toList = attrsT (l.take j) ∧ Below w.heap.size w wr) (fun _ i _ => n - (intOf i).toNat)
  case atStart => exact ⟨0, ⟨#[]⟩, Nat.zero_le _, rfl, rfl, rfl, Below.refl _ _⟩
  case round =>
    obtain ⟨j, t, hj, rfl, rfl, ht, hbw⟩ := hrel
    have HTT : Hid _ := ht
    clear ht
    by_cases hlt : j < n
    · obtain ⟨p, hp⟩ : ∃ p, l[j]? = some p := ⟨_, List.getElem?_eq_getElem (by rw [HN.out]; exact hlt)⟩
      have hpm := List.mem_of_getElem? hp
      have hps := HS.out p hpm
      obtain ⟨gx, hgx⟩ := pair_get l j p hp
      obtain ⟨g, off, rfl, hg, hcells⟩ : ∃ g off, ao = some ⟨g, off, none⟩ ∧ g < w.heap.size ∧ ∀ i y, (pairCells l)[i]? = some y → w.cell? ⟨g, off + i, none⟩ = some y := by
        have hr := HR.out
        rw [HN.out] at hr
        cases hpc : pairCells l with
        | nil => rw [hpc] at gx; simp at gx
        | cons a b => rw [hpc] at hr; exact row_flat hr
      obtain ⟨nm, hnm⟩ : ∃ nm : ByteArray, (⟨p.1.toArray⟩ : ByteArray) = nm := ⟨_, rfl⟩
      obtain ⟨vl, hvl⟩ : ∃ vl : ByteArray, (⟨p.2.toArray⟩ : ByteArray) = vl := ⟨_, rfl⟩
      have k0 : wr.cell? ⟨g, off + j * 2, none⟩ = some (.string nm) := by rw [hbw.cell (p := ⟨g, _, none⟩) hg, ← hnm]; exact hcells _ _ gx
      have k1 : wr.cell? ⟨g, off + j * 2 + 1, none⟩ = some (.string vl) := by rw [hbw.cell (p := ⟨g, _, none⟩) hg, Nat.add_assoc, ← hvl]; exact hcells _ _ hgx
      have hs1 : nm.size ≤ 16 := by rw [size_list, ← hnm]; exact hps.1
      have hs2 : vl.size ≤ 2000000 := by rw [size_list, ← hvl]; exact hps.2
      have hrv : right vl.data.toList = true := by rw [← hvl]; exact HRR.out p hpm
      obtain ⟨ev, hev⟩ : ∃ ev : ByteArray, (⟨(esc vl.data.toList).toArray⟩ : ByteArray) = ev := ⟨_, rfl⟩
      have hs3 : ev.size ≤ 12000000 := by rw [size_list, ← hev]; have := (esc_length vl.data.toList).2; rw [size_list] at hs2; simp only at this ⊢; omega
      have hst : t.size ≤ 100000000 := by
        rw [size_list, HTT.out]
        have := attrsT_len (l.take j) fun q hq => HS.out q (List.mem_of_mem_take hq)
        have h2 : (l.take j).length ≤ j := List.length_take_le _ _
        omega
      have hnew : (t ++ (⟨#[32]⟩ ++ nm ++ ⟨#[61, 34]⟩ ++ ev ++ ⟨#[34]⟩)).data.toList = attrsT (l.take (j + 1)) := by
        rw [attrsT_snoc l j p hp]
        simp only [app_list, HTT.out, attrT, ← hev, ← hnm, ← hvl]
      have H1 : ∀ W, Below w.heap.size w W → Calls Tryz.prog 17 #[.string vl] W fun e w' => e = .returned (.string ev) ∧ Below W.heap.size W w' := fun W hW => by rw [← hev]; exact escaped_any vl W (hT.below hT3 hW) hs2 hrv
      have HNEW : Hid _ := hnew
      have hgr : g < wr.heap.size := by have := hbw.size; omega
      have hi0 : (0 : Int) ≤ (j : Int) := Int.natCast_nonneg _
      have hi1 : (j : Int) < (n : Int) := by omega
      clear hnew hev hrv hnm hvl hcells gx hgx hp hps hpm
      have n1 : (nm.size : Int) ≤ 16 := by omega
      have n2 : (ev.size : Int) ≤ 12000000 := by omega
      have n3 : (t.size : Int) ≤ 100000000 := by omega
      have n1' : (0 : Int) ≤ (nm.size : Int) := Int.natCast_nonneg _
      have n2' : (0 : Int) ≤ (ev.size : Int) := Int.natCast_nonneg _
      have n3' : (0 : Int) ≤ (t.size : Int) := Int.natCast_nonneg _
      obtain ⟨s1, hz1⟩ : ∃ s1 : ByteArray, ⟨#[32]⟩ ++ nm = s1 := ⟨_, rfl⟩
      obtain ⟨s2, hz2⟩ : ∃ s2 : ByteArray, s1 ++ ⟨#[61, 34]⟩ = s2 := ⟨_, rfl⟩
      obtain ⟨s3, hz3⟩ : ∃ s3 : ByteArray, s2 ++ ev = s3 := ⟨_, rfl⟩
      obtain ⟨s4, hz4⟩ : ∃ s4 : ByteArray, s3 ++ ⟨#[34]⟩ = s4 := ⟨_, rfl⟩
      have z1 : s1.size ≤ 100 := by rw [← hz1, app_size]; show 1 + nm.size ≤ 100; omega
      have z2 : s2.size ≤ 200 := by rw [← hz2, app_size]; show s1.size + 2 ≤ 200; omega
      have z3 : s3.size ≤ 12000200 := by rw [← hz3, app_size]; omega
      have z4 : s4.size ≤ 12000300 := by rw [← hz4, app_size]; show s3.size + 1 ≤ 12000300; omega
      have a1 : ∀ W, (Op.stringOp .add ⟨#[32]⟩ nm).run Tryz.prog W = .ok (.string s1) W := fun W => (run_string_add_sum W _ _ (by show 1 + nm.size ≤ _; omega)).trans (by rw [hz1])
      have a2 : ∀ W, (Op.stringOp .add s1 ⟨#[61, 34]⟩).run Tryz.prog W = .ok (.string s2) W := fun W => (run_string_add_sum W _ _ (by show s1.size + 2 ≤ _; omega)).trans (by rw [hz2])
      have a3 : ∀ W, (Op.stringOp .add s2 ev).run Tryz.prog W = .ok (.string s3) W := fun W => (run_string_add_sum W _ _ (by omega)).trans (by rw [hz3])
      have a4 : ∀ W, (Op.stringOp .add s3 ⟨#[34]⟩).run Tryz.prog W = .ok (.string s4) W := fun W => (run_string_add_sum W _ _ (by show s3.size + 1 ≤ _; omega)).trans (by rw [hz4])
      have a5 : ∀ W, (Op.stringOp .add t s4).run Tryz.prog W = .ok (.string (t ++ s4)) W := fun W => run_string_add_sum W _ _ (by omega)
      rw [hz1, hz2, hz3, hz4] at HNEW
      clear hz1 hz2 hz3 hz4
      go_wp2_with fail
      go_region_held3 (fun W => W.cell? ⟨wr.heap.size, 0, none⟩ = some (.string nm) ∧ W.cell? ⟨wr.heap.size, 1, none⟩ = some (.string vl))
        (first
          | go_keep
          | (go_split_ands
             refine ⟨?_, ?_⟩
             · (rw [hc1 _ _ (by simp)]; first | assumption | simp)
             · (rw [hc1 _ _ (by simp)]; first | assumption | simp)))
        (first | (go_at_call 17; refine (H1 _ ?_).mono ?_; (exact (hbw.alloc hbw.size _).drew); rintro e w1 ⟨rfl, hb1⟩; obtain ⟨hc1, hf1⟩ := bcell hb1))
      go_wp2_with fail
      go_roundw
      case rel => exact ⟨j + 1, _, by omega, by go_num, rfl, HNEW.out, ((hbw.alloc hbw.size _).drew).trans (hb1.mono (by have := hbw.size; simp; omega))⟩
      case measure => simp [intOf]; omega
    · have e : (⟨(attrsT l).toArray⟩ : ByteArray) = t := (mk_of_list (by rw [HTT.out, List.take_of_length_le (by rw [HN.out]; omega)])).symm
      have HE : Hid _ := e
      clear e
      go_wp2_with fail
      go_ret
      exact ⟨ret_str HE.out.symm, hbw⟩
end Go.Proofs.YthekdgnikkjpdaaGreatDoor
