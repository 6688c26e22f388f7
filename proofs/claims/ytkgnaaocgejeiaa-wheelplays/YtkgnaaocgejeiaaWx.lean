/-
  The contracts of (*Wheel).Drop, Set and Go over this program.
-/
import Derived.Test.YtkgnaaocgejeiaaWw
namespace Go.Proofs.Ytkgnaaocgejeiaa
open Go Go.RowKit Go.Maps
set_option maxHeartbeats 400000 in
theorem wdrop_nil (z : Int) (w : World) : Calls Try.prog 15 #[.pointer none, .int .i64 z] w fun e w' => e = .returned (.bool false) ∧ w' = w := by
  go_enter Try.func15, Try.ntmps15
  go_wp2_with (go_at_call 23; refine (wat_nil _ _).mono ?_; rintro e w1 ⟨rfl, rfl⟩)
  go_ret
  exact ⟨rfl, rfl⟩
set_option maxHeartbeats 400000 in
theorem wdrop_no (g : Nat) (S : List Nat) (m now : Int) (L : List (Int × Int)) (z : Int) (w : World) (h : WBt g S m now L w) (hz : N z) (hn : z ∉ ids L) : Calls Try.prog 15 #[.pointer (some ⟨g, 0, none⟩), .int .i64 z] w fun e w' => e = .returned (.bool false) ∧ w' = w := by
  have HA := wat_any g S m now L z w h hz
  rw [tOf_none.2 hn] at HA
  simp only [Option.getD_none, Option.isSome_none] at HA
  clear h hz hn
  go_enter Try.func15, Try.ntmps15
  go_wp2_with (go_at_call 23; refine HA.mono ?_; rintro e w1 ⟨rfl, rfl⟩)
  go_ret
  exact ⟨rfl, rfl⟩
/-- What lies behind one number taken. -/
theorem taken {g p cap b : Nat} {m now : Int} {L : List (Int × Int)} {l : List Int} {z : Int} {w w' : World} (hok : Ok m L) (hp : l.Perm (ids L)) (hz : z ∈ ids L) (h : TkRes g p cap b (L.length - 1) now l (tOf L) z w w') : WBt g [g, p, b] m now (del z L) w' ∧ Fr [g, p, b] w w' := by
  obtain ⟨l', hq, hp', hh, hf⟩ := h
  have e : L.length - 1 = (del z L).length := by have := del_len hok.nd hz; omega
  rw [e, ← tOf_del] at hq
  rw [← tOf_del] at hh
  refine ⟨⟨hok.del z, .inr ⟨p, cap, b, l', hq, ?_, hh, rfl⟩⟩, hf⟩
  exact ((hp'.trans hp).trans (ids_del hok.nd hz).symm).cons_inv
set_option maxHeartbeats 1000000 in
theorem wdrop_yes (g : Nat) (S : List Nat) (m now : Int) (L : List (Int × Int)) (z : Int) (w : World) (h : WBt g S m now L w) (hz : N z) (hn : z ∈ ids L) :
    Calls Try.prog 15 #[.pointer (some ⟨g, 0, none⟩), .int .i64 z] w fun e w' => e = .returned (.bool true) ∧ WBt g S m now (del z L) w' ∧ Fr S w w' := by
  have HA := wat_any g S m now L z w h hz
  have hs := tOf_some.2 hn
  rw [hs] at HA
  rcases h.mem with ⟨_, rfl, _⟩ | ⟨p, cap, b, l, h1, h2, h3, rfl⟩
  · cases hn
  · have hlen : l.length ≤ 1000 := by rw [h2.length_eq]; have := h.ok.ln; simp [ids]; omega
    have HI := fun W (hq : RwAt p cap l W) => index_any p cap l z W hq (h2.mem_iff.2 hn) hlen
    have HQ : Hid (QAt g p cap b L.length now l (tOf L) w) := h1
    have HT : ∀ (i : Nat) W, i < l.length → at0 l i = z → QAt g p cap b L.length now l (tOf L) W → Calls Try.prog 26 #[.pointer (some ⟨g, 1, none⟩), .int .i64 (i : Int)] W fun e w' => e = .returned (.int .i64 z) ∧ TkRes g p cap b (L.length - 1) now l (tOf L) z W w' := fun i W hi e hq => by
      have := take_any g p cap b L.length now l (tOf L) i W hq hi hlen h3 (h2.nodup_iff.2 h.ok.nd) (by rw [e]; exact hs)
      rw [e] at this
      exact this
    have HX : Hid (∀ W w', W.os = w.os → W.tape = w.tape → W.output = w.output → W.heap = w.heap → TkRes g p cap b (L.length - 1) now l (tOf L) z W w' → WBt g [g, p, b] m now (del z L) w' ∧ Fr [g, p, b] w w') := fun W w' e1 e2 e3 e4 hk => by
      have hx := taken h.ok h2 hn hk
      exact ⟨hx.1, (Fr.alike (Fr.refl _ w) e1 e2 e3 e4).trans hx.2⟩
    have c1 := h1.hd.c1
    obtain ⟨x, hx⟩ : ∃ x, (tOf L z).getD 0 = x := ⟨_, rfl⟩
    rw [hx] at HA
    clear h hz hn hs h1 h2 h3 hx
    go_enter Try.func15, Try.ntmps15
    go_wp2_with (go_at_call 23; refine HA.mono ?_; rintro e w1 ⟨rfl, rfl⟩)
    go_region_with (first
      | (go_at_call 27; refine (HI _ ?_).mono ?_; exact HQ.out.rw.keep rfl; rintro e w1 ⟨⟨i, rfl, hi', he'⟩, rfl⟩; have HII : Hid _ := hi'; have HEE : Hid _ := he'; clear hi' he')
      | (go_at_call 26; refine (HT _ _ HII.out HEE.out ?_).mono ?_; exact HQ.out.alike rfl; rintro e w2 ⟨rfl, hk2⟩; have HK2 : Hid _ := hk2; clear hk2))
    all_goals (
      go_wp2_with fail
      go_ret
      refine ⟨rfl, HX.out _ _ ?_ ?_ ?_ ?_ HK2.out⟩ <;> rfl)
/-- Drop, in either case. -/
theorem wdrop_any (g : Nat) (S : List Nat) (m now : Int) (L : List (Int × Int)) (z : Int) (w : World) (h : WBt g S m now L w) (hz : N z) :
    Calls Try.prog 15 #[.pointer (some ⟨g, 0, none⟩), .int .i64 z] w fun e w' => e = .returned (.bool (tOf L z).isSome) ∧ WBt g S m now (del z L) w' ∧ Fr S w w' := by
  by_cases hn : z ∈ ids L
  · rw [tOf_some.2 hn]
    exact wdrop_yes g S m now L z w h hz hn
  · rw [tOf_none.2 hn, del_none hn]
    refine (wdrop_no g S m now L z w h hz hn).mono fun e w' ⟨he, hw⟩ => ?_
    subst hw
    exact ⟨he, h, Fr.refl _ _⟩
/-- What a call leaves that may lay blocks for the wheel. -/
def WRes (g : Nat) (S : List Nat) (now : Int) (L : List (Int × Int)) (w w' : World) : Prop := ∃ S', WAt g S' now L w' ∧ Nx S S' w ∧ Fr S w w'
theorem WRes.trans {g : Nat} {S : List Nat} {now : Int} {L : List (Int × Int)} {w w1 w' : World} (hf : Fr S w w1) (h : WRes g S now L w1 w') : WRes g S now L w w' := by
  obtain ⟨S', h1, h2, h3⟩ := h
  exact ⟨S', h1, fun k hk => (h2 k hk).imp id (fun h => Nat.le_trans hf.1.size h), hf.trans h3⟩
theorem WRes.refl {g : Nat} {S : List Nat} {now : Int} {L : List (Int × Int)} {w : World} (h : WAt g S now L w) : WRes g S now L w w := ⟨S, h, Nx.refl _ _, Fr.refl _ _⟩
theorem wadd_any (g : Nat) (S : List Nat) (now : Int) (L : List (Int × Int)) (z v : Int) (w : World) (h : WAt g S now L w) (hz : N z) (hv : N v) (hn : z ∉ ids L) (hok : Ok now (ins (z, v) L)) :
    Calls Try.prog 24 #[.pointer (some ⟨g, 1, none⟩), .int .i64 z, .int .i64 v] w fun e w' => e = .returned (.tuple #[]) ∧ WRes g S now (ins (z, v) L) w w' := by
  have hlen := ins_len (z, v) L
  have ht := tOf_ins (v := v) hn
  rcases h.mem with ⟨h1, rfl, rfl⟩ | ⟨p, cap, b, l, h1, h2, h3, rfl⟩
  · refine (add_fresh g now z v w h1 hz hv).mono fun e w' ⟨he, p, cap, b, l', hq, hp, hh, hb, hf⟩ => ⟨he, [g, p, b], ⟨hok, .inr ⟨p, cap, b, l', ?_, hp, ?_, rfl⟩⟩, hb, hf⟩
    · rw [ht, hlen]; exact hq
    · rw [ht]; exact hh
  · have hl : l.length = L.length := by rw [h2.length_eq]; simp [ids]
    have hL := h.ok.ln
    refine (add_made g p cap b L.length now l (tOf L) z v w h1 hz hv (by omega) (by omega) h3 (fun hx => hn (h2.mem_iff.1 hx)) (tOf_none.2 hn)).mono fun e w' ⟨he, p', cap', b', l', hq, hp, hh, hb, hf⟩ => ⟨he, [g, p', b'], ⟨hok, .inr ⟨p', cap', b', l', ?_, ?_, ?_, rfl⟩⟩, hb, hf⟩
    · rw [ht, hlen]; exact hq
    · exact (hp.trans (h2.append_right [z])).trans (ids_ins (z, v) L).symm
    · rw [ht]; exact hh
set_option maxHeartbeats 400000 in
theorem wset_nil (z v : Int) (w : World) : Calls Try.prog 13 #[.pointer none, .int .i64 z, .int .i64 v] w fun e w' => e = .returned (.int .i64 1) ∧ w' = w := by
  go_enter Try.func13, Try.ntmps13
  go_wp2_with fail
  go_ret
  exact ⟨rfl, rfl⟩
set_option maxHeartbeats 1000000 in
theorem wset_any (g : Nat) (S : List Nat) (now : Int) (L : List (Int × Int)) (z v : Int) (w : World) (h : WAt g S now L w) (hz : N z) (hv : N v) :
    Calls Try.prog 13 #[.pointer (some ⟨g, 0, none⟩), .int .i64 z, .int .i64 v] w fun e w' => e = .returned (.int .i64 (setE now L z v)) ∧ WRes g S now (setL now L z v) w w' := by
  obtain ⟨ao, cap, mo, hd⟩ := h.head
  have c0 := hd.c0
  have hok := Ok.set (v := v) h.ok hz
  unfold setL at hok ⊢
  unfold setE at hok ⊢
  have H0 : Hid (WRes g S now L w w) := WRes.refl h
  by_cases e1 : v ≤ now ∨ 1099511627776 < v
  · rw [if_pos e1, if_neg (by decide)]
    clear hok hd
    by_cases e2 : v ≤ now
    · clear e1
      go_enter Try.func13, Try.ntmps13
      go_wp2_with fail
      go_ret
      exact ⟨rfl, H0.out⟩
    · have e3 : 1099511627776 < v := by omega
      clear e1
      go_enter Try.func13, Try.ntmps13
      go_wp2_with fail
      go_ret
      exact ⟨rfl, H0.out⟩
  · rw [if_neg e1] at hok ⊢
    have n1 : ¬ v ≤ now := by omega
    have n2 : ¬ 1099511627776 < v := by omega
    have HA := wat_any g S now now L z w h hz
    have HL := wlen_any g S now now L w h
    by_cases e2 : z ∉ ids L ∧ L.length = 256
    · rw [if_pos e2, if_neg (by decide)]
      rw [tOf_none.2 e2.1] at HA
      rw [e2.2] at HL
      simp only [Option.getD_none, Option.isSome_none] at HA
      clear hok hd e1 e2
      go_enter Try.func13, Try.ntmps13
      go_wp2_with (first
        | (go_at_call 23; refine HA.mono ?_; rintro e w ⟨rfl, rfl⟩)
        | (go_at_call 21; refine HL.mono ?_; rintro e w ⟨rfl, rfl⟩))
      go_ret
      exact ⟨rfl, H0.out⟩
    · rw [if_neg e2, if_pos rfl] at hok
      rw [if_neg e2, if_pos rfl]
      have HD := wdrop_any g S now now L z w h hz
      have HAD := fun W hw => wadd_any g S now (del z L) z v W hw hz hv (not_mem_del z L) hok
      obtain ⟨x, hx⟩ : ∃ x, (tOf L z).getD 0 = x := ⟨_, rfl⟩
      rw [hx] at HA
      cases hs : (tOf L z).isSome with
      | true =>
        rw [hs] at HA HD
        clear hok hd e1 e2 hx hs H0
        go_enter Try.func13, Try.ntmps13
        go_wp2_with (first
          | (go_at_call 23; refine HA.mono ?_; rintro e w ⟨rfl, rfl⟩)
          | (go_at_call 15; refine HD.mono ?_; rintro e w1 ⟨rfl, hw1, hf1⟩; have HW1 : Hid _ := hw1; have HF1 : Hid _ := hf1; clear hw1 hf1)
          | (go_at_call 24; refine (HAD _ HW1.out).mono ?_; rintro e w2 ⟨rfl, hr2⟩; have HR2 : Hid _ := hr2; clear hr2))
        go_ret
        exact ⟨rfl, WRes.trans HF1.out HR2.out⟩
      | false =>
        rw [hs] at HA HD
        have hne : L.length ≠ 256 := fun e3 => e2 ⟨(fun hm => by rw [tOf_some.2 hm] at hs; cases hs), e3⟩
        obtain ⟨n, hn⟩ : ∃ n, L.length = n := ⟨_, rfl⟩
        rw [hn] at HL hne
        have hne' : ((n : Int) == 256) = false := by simp; omega
        clear hok hd e1 e2 hx hs H0 hn hne
        go_enter Try.func13, Try.ntmps13
        go_wp2_with (first
          | (go_at_call 23; refine HA.mono ?_; rintro e w ⟨rfl, rfl⟩)
          | (go_at_call 21; refine HL.mono ?_; rintro e w ⟨rfl, rfl⟩)
          | (go_at_call 15; refine HD.mono ?_; rintro e w1 ⟨rfl, hw1, hf1⟩; have HW1 : Hid _ := hw1; have HF1 : Hid _ := hf1; clear hw1 hf1)
          | (go_at_call 24; refine (HAD _ HW1.out).mono ?_; rintro e w2 ⟨rfl, hr2⟩; have HR2 : Hid _ := hr2; clear hr2))
        go_ret
        exact ⟨rfl, WRes.trans HF1.out HR2.out⟩
end Go.Proofs.Ytkgnaaocgejeiaa
