/-
  The contract of signs.Unescape over this program: for every string of at most 100000 bytes.
-/
import Derived.Test.YthekdgnikkjpdaaGreatDoorWalkh
namespace Go.Proofs.YthekdgnikkjpdaaGreatDoor
open Go.RowKit
theorem standI_none {l : List UInt8} (h : entAt l = none) : standI l = (0, ⟨#[]⟩, false) := by
  unfold entAt at h
  unfold standI
  repeat' split at h
  all_goals first
    | (cases h; done)
    | (rename_i a b c d e; rw [if_neg a, if_neg b, if_neg c, if_neg d, if_neg e])
theorem standI_some {l : List UInt8} {c : UInt8} {m : Nat} (h : entAt l = some (c, m)) : ∃ tx : ByteArray, standI l = ((c.toNat : Int), tx, true) ∧ tx.size = m := by
  unfold entAt at h
  unfold standI
  by_cases h1 : Lib.hasPrefix l [38, 97, 109, 112, 59] = true
  · rw [if_pos h1] at h ⊢; cases h; exact ⟨_, rfl, rfl⟩
  rw [if_neg h1] at h ⊢
  by_cases h2 : Lib.hasPrefix l [38, 108, 116, 59] = true
  · rw [if_pos h2] at h ⊢; cases h; exact ⟨_, rfl, rfl⟩
  rw [if_neg h2] at h ⊢
  by_cases h3 : Lib.hasPrefix l [38, 103, 116, 59] = true
  · rw [if_pos h3] at h ⊢; cases h; exact ⟨_, rfl, rfl⟩
  rw [if_neg h3] at h ⊢
  by_cases h4 : Lib.hasPrefix l [38, 113, 117, 111, 116, 59] = true
  · rw [if_pos h4] at h ⊢; cases h; exact ⟨_, rfl, rfl⟩
  rw [if_neg h4] at h ⊢
  by_cases h5 : Lib.hasPrefix l [38, 97, 112, 111, 115, 59] = true
  · rw [if_pos h5] at h ⊢; cases h; exact ⟨_, rfl, rfl⟩
  rw [if_neg h5] at h
  cases h
theorem enc_low (c : UInt8) (h : c.toNat < 128) : Lib.encodeRune (c.toNat : Int) = [c] := by
  unfold Lib.encodeRune
  rw [Lib.encodeRuneZ_one (by omega) (by omega)]
  simp
theorem u8_eq {a : UInt8} {n : Nat} (h : a.toNat = n) : a = UInt8.ofNat n := by rw [← h]; simp

theorem unesc_step (s : ByteArray) (pos : Nat) (hp : pos < s.size) (hr : right (s.data.toList.drop pos) = true) :
    ∃ n : Nat, 1 ≤ n ∧ pos + n ≤ s.size ∧ (Utf8.decode s pos).2 = n ∧ (Utf8.decode s pos).1 ≤ 1114111 ∧ right (s.data.toList.drop (pos + n)) = true ∧
      (((Utf8.decode s pos).1 = 60 ∧ unesc (s.data.toList.drop pos) = none) ∨
       ((Utf8.decode s pos).1 = 38 ∧ standI (s.data.toList.drop pos) = (0, ⟨#[]⟩, false) ∧ unesc (s.data.toList.drop pos) = none) ∨
       ((Utf8.decode s pos).1 = 38 ∧ ∃ (c : UInt8) (m : Nat) (tx : ByteArray), standI (s.data.toList.drop pos) = ((c.toNat : Int), tx, true) ∧ tx.size = m ∧ pos + m ≤ s.size ∧ 4 ≤ m ∧ m ≤ 6 ∧ c.toNat < 128 ∧ n = 1 ∧
          (∀ j, pos ≤ j → j < pos + m → (s.data.toList.getD j 0).toNat < 128) ∧ unesc (s.data.toList.drop pos) = (unesc (s.data.toList.drop (pos + m))).map (c :: ·)) ∨
       ((Utf8.decode s pos).1 ≠ 60 ∧ (Utf8.decode s pos).1 ≠ 38 ∧ unesc (s.data.toList.drop pos) = (unesc (s.data.toList.drop (pos + n))).map (Lib.encodeRune (((Utf8.decode s pos).1 : Nat) : Int) ++ ·))) := by
  obtain ⟨n, h1, h2, h3, _, h5⟩ := right_step hr (drop_ne hp)
  have hd := decode_at s pos hp
  have c1 : 1 ≤ (sg (s.data.toList.drop pos)).2 := by omega
  rw [if_pos c1, h3] at hd
  rw [List.length_drop, ← size_list] at h2
  rw [List.drop_drop] at h5
  refine ⟨n, h1, by omega, by rw [hd]; simp, by rw [hd]; exact (sgWay _).bound, h5, ?_⟩
  by_cases hn : n = 1
  · subst hn
    obtain ⟨a, t, ha, hl, hv⟩ := (sgWay (s.data.toList.drop pos)).low (by rw [h3]; rfl)
    have hdr := drop_cons s pos hp
    rw [ha] at hdr
    have ht : t = s.data.toList.drop (pos + 1) := (List.cons.inj hdr).2
    have hd1 : (Utf8.decode s pos).1 = a.toNat := by rw [hd]; exact hv
    rw [hd1]
    by_cases ha60 : a.toNat = 60
    · have := u8_eq ha60
      subst this
      exact .inl ⟨rfl, by rw [ha]; exact unesc_lt t⟩
    by_cases ha38 : a.toNat = 38
    · have := u8_eq ha38
      subst this
      cases he : entAt (s.data.toList.drop pos) with
      | none => exact .inr (.inl ⟨rfl, standI_none he, by rw [ha] at he ⊢; exact unesc_amp_no t he⟩)
      | some cm =>
        obtain ⟨c, m⟩ := cm
        obtain ⟨tx, k1, k2⟩ := standI_some he
        obtain ⟨q1, q2, q3, q4, q5⟩ := entAt_n he
        rw [List.length_drop, ← size_list] at q3
        refine .inr (.inr (.inl ⟨rfl, c, m, tx, k1, k2, by omega, q1, q2, q5, rfl, ?_, ?_⟩))
        · intro j hj1 hj2
          apply q4
          have hjs : j < s.data.toList.length := by rw [← size_list]; omega
          rw [List.getD_eq_getElem?_getD, List.getElem?_eq_getElem hjs, Option.getD_some]
          rw [List.mem_take_iff_getElem]
          refine ⟨j - pos, by rw [List.length_drop, ← size_list]; omega, ?_⟩
          rw [List.getElem_drop]
          congr 1
          omega
        · have hu : unesc (s.data.toList.drop pos) = (unesc ((s.data.toList.drop pos).drop m)).map (c :: ·) := by
            rw [ha] at he ⊢
            exact unesc_amp t c m he
          rw [hu, List.drop_drop]
    · refine .inr (.inr (.inr ⟨ha60, ha38, ?_⟩))
      rw [enc_low a hl, ha, ← ht]
      exact unesc_other a t (fun e => ha60 (by rw [e]; rfl)) (fun e => ha38 (by rw [e]; rfl))
  · have hh := (sgWay (s.data.toList.drop pos)).high (by omega)
    have hd1 : (Utf8.decode s pos).1 = (sg (s.data.toList.drop pos)).1 := by rw [hd]
    rw [hd1]
    refine .inr (.inr (.inr ⟨by omega, by omega, ?_⟩))
    rw [sg_enc _ c1]
    rw [h3] at hh ⊢
    simp only [Int.toNat_natCast] at hh ⊢
    have e : unesc (s.data.toList.drop pos) = unesc ((s.data.toList.drop pos).take n ++ (s.data.toList.drop pos).drop n) := by rw [List.take_append_drop]
    rw [e, unesc_others _ _ (fun b hb => by
      have := hh.2 b hb
      exact ⟨by rintro rfl; revert this; decide, by rintro rfl; revert this; decide⟩), List.drop_drop]

def unescN (l : List UInt8) : ByteArray × Int := if right l then (match unesc l with | some r => (⟨r.toArray⟩, 0) | none => (⟨#[]⟩, 3)) else (⟨#[]⟩, 2)
theorem standInAt_at (s : ByteArray) (pos : Nat) (c : Int) (tx : ByteArray) (b : Bool) (h : standI (s.data.toList.drop pos) = (c, tx, b)) (w : World) (hT : Tabs w) :
    Calls Tryz.prog 78 #[.string (s.extract pos s.size)] w fun e w' => e = .returned (.tuple #[.agg #[.int .i32 c, .string tx], .bool b]) ∧ Below w.heap.size w w' := by
  have k := standInAt_any (s.extract pos s.size) w hT
  rw [extract_list, h] at k
  exact k
set_option maxHeartbeats 1000000 in
theorem unescape_no (s : ByteArray) (w : World) (hT : Tabs w) (hs : s.size ≤ 2000000) (hr : right s.data.toList = false) :
    Calls Tryz.prog 63 #[.string s] w fun e w' => e = .returned (.tuple #[.string ⟨#[]⟩, .int .i64 2]) ∧ Below w.heap.size w w' := by
  have h := right_at s 2 (by simp [rightN, hr]) w hT (by omega)
  clear hr
  go_enter Tryz.func63, Tryz.ntmps63
  go_wp2_with (go_at_call 23; refine h.mono ?_; rintro e w' ⟨rfl, hb⟩)
  go_ret2
  exact ⟨rfl, hb⟩
end Go.Proofs.YthekdgnikkjpdaaGreatDoor
