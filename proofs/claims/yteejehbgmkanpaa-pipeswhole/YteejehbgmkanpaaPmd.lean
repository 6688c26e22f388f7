/-
  A string appended to a connection's row of bytes; the contracts of write, Write and Out.
-/
import Derived.Test.YteejehbgmkanpaaPmc
import Derived.Deep.QuietTactic
namespace Go.Proofs.Yteejehbgmkanpaa
open Go Go.RowKit
theorem run_append_new {P : Program} (w : World) (t u ty e : TypeId) (i : TypeInfo) (ht : P.underlying t = some (.slice e)) (hu : P.underlying u = some .string) (hi : P.info? e = some i) (hz : i.zero = some (.int .u8 0))
    (hsize : i.size = 1) (hby : i.bytes = 1) (v : Value) (n : Nat) (xs : List Value) (hown : w.ownsRow 0 e 1 v n xs) (s : ByteArray) (hl : n + s.size ≤ 140737488355328) :
    ∃ v' w', (Builtin.append_ #[t, u] ty #[v, .string s]).run P w = .ok v' w' ∧ w'.ownsRow 0 e 1 v' (n + s.size) (xs ++ Lib.strCells s) ∧ w.grownBy w' v.ownBlock ∧ (∀ g, v'.ownBlock = some g → v.ownBlock = some g ∨ w.heap.size ≤ g) := by
  have h63 : n + s.size ≤ maxLen := by unfold maxLen; omega
  have hsmall : n + s.size ≤ 9223372036854775807 := by omega
  have hxl : xs.length = n := by simpa using hown.1
  rcases hown.2 with ⟨rfl, rfl⟩ | ⟨g, cap, cur, rfl, hbg, hg, hnc, hcm, hcs, htake⟩
  · obtain ⟨v', w', h1, h2, h3, _⟩ := Lib.run_append_own_string (P := P) w w.heap.size t u ty e i ht hu hi hz hsize hby _ _ xs ⟨hown.1, .inl ⟨rfl, rfl⟩⟩ s h63 hl (Nat.le_refl _)
    exact ⟨v', w', h1, owns_base h2 (fun _ _ => Nat.zero_le _), h3, fun g hg => .inr (World.ownsRow.lt h2 g hg).1⟩
  · obtain ⟨v', w', h1, h2, h3, _⟩ := Lib.run_append_own_string (P := P) w 0 t u ty e i ht hu hi hz hsize hby _ _ xs hown s h63 hl (Nat.zero_le _)
    refine ⟨v', w', h1, h2, h3, fun k hk => ?_⟩
    by_cases hroom : n + s.size ≤ cap
    · have hr := Lib.run_append_room_string (P := P) w t u ty e i ht hu hi hsize g n cap cur hg s hroom (by omega)
      rw [hr] at h1
      injection h1 with e1 e2
      rw [← e1] at hk
      exact .inl hk
    · have holds : ∀ j u, xs[j]? = some u → w.cell? ((⟨g, 0, none⟩ : Addr).add j) = some u := hown.cells (g := g) rfl
      have hr := Lib.run_append_grow_string (P := P) w t u ty e i (.int .u8 0) ht hu hi hz ⟨g, 0, none⟩ n cap xs (by rw [hsize]; simpa using hxl) holds s (by omega) (by omega) (by rw [hby]; exact growslice_fits (by omega) (by omega))
      rw [hr] at h1
      injection h1 with e1 e2
      rw [← e1] at hk
      simp only [Value.ownBlock, Option.some.injEq] at hk
      exact .inr (by omega)
theorem wpList_append_str {P : Program} {w : World} {ops : Array Oper} {rest : List Oper} {o : Oper} {a : Act} {Q : Exit → Act → World → Prop} (hgd : o.guard = none) (sl x : Operand) (t u : TypeId)
    (ho : o.op = .call { callee := .builtin .append, args := #[sl, x], argTypes := #[t, u] }) (e : TypeId) (i : TypeInfo) (ht : P.underlying t = some (.slice e)) (hu : P.underlying u = some .string) (hi : P.info? e = some i) (hz : i.zero = some (.int .u8 0))
    (hsize : i.size = 1) (hby : i.bytes = 1) (v : Value) (n : Nat) (xs : List Value) (hs : a.eval sl = v) (hown : w.ownsRow 0 e 1 v n xs) (s : ByteArray) (hx : a.eval x = .string s) (hl : n + s.size ≤ 140737488355328)
    (h : ∀ v' w', w'.ownsRow 0 e 1 v' (n + s.size) (xs ++ Lib.strCells s) → w.grownBy w' v.ownBlock → (∀ g, v'.ownBlock = some g → v.ownBlock = some g ∨ w.heap.size ≤ g) → wpList P ops Q rest (a.put o.dst v') w') : wpList P ops Q (o :: rest) a w := by
  refine wpList_plain hgd fun K hK => ?_
  obtain ⟨v', w', hr, h2, h3, h4⟩ := run_append_new (P := P) w t u o.type e i ht hu hi hz hsize hby v n xs hown s hl
  unfold Oper.wp execOp
  simp only [ho, resolve, invoke, builtin, Sem.run_bind, Sem.run_pure, Result.andThen_ok, List.map_toArray, List.map_cons, List.map_nil, hs, hx, hr]
  exact hK _ _ (h v' w' h2 h3 h4)
theorem step_append_str {P : Program} {w : World} {ops : Array Oper} {o : Oper} {a : Act} {K : Act → World → Prop} {Q : Exit → Act → World → Prop} {E : Prop} (hgd : o.guard = none) (sl x : Operand) (t u : TypeId)
    (ho : o.op = .call { callee := .builtin .append, args := #[sl, x], argTypes := #[t, u] }) (e : TypeId) (i : TypeInfo) (ht : P.underlying t = some (.slice e)) (hu : P.underlying u = some .string) (hi : P.info? e = some i) (hz : i.zero = some (.int .u8 0))
    (hsize : i.size = 1) (hby : i.bytes = 1) (v : Value) (n : Nat) (xs : List Value) (hs : a.eval sl = v) (hown : w.ownsRow 0 e 1 v n xs) (s : ByteArray) (hx : a.eval x = .string s) (hl : n + s.size ≤ 140737488355328)
    (h : ∀ v' w', w'.ownsRow 0 e 1 v' (n + s.size) (xs ++ Lib.strCells s) → w.grownBy w' v.ownBlock → (∀ g, v'.ownBlock = some g → v.ownBlock = some g ∨ w.heap.size ≤ g) → K (a.put o.dst v') w') :
    if Region.wanted o (yielded ops a.tmps) = true then Oper.wp P o a w K Q else E := by
  have hw : Region.wanted o (yielded ops a.tmps) = true := by simp [Region.wanted, hgd]
  rw [if_pos hw]
  obtain ⟨v', w', hr, h2, h3, h4⟩ := run_append_new (P := P) w t u o.type e i ht hu hi hz hsize hby v n xs hown s hl
  unfold Oper.wp execOp
  simp only [ho, resolve, invoke, builtin, Sem.run_bind, Sem.run_pure, Result.andThen_ok, List.map_toArray, List.map_cons, List.map_nil, hs, hx, hr]
  exact h v' w' h2 h3 h4
theorem owns_slice {w : World} {B : Nat} {e : TypeId} {sz : Nat} {v : Value} {n : Nat} {xs : List Value} (h : w.ownsRow B e sz v n xs) : ∃ ao cap, v = .slice ao n cap := by
  rcases h.2 with ⟨e, k⟩ | ⟨g, cap, cur, e, _⟩
  · exact ⟨none, 0, by rw [e, k]⟩
  · exact ⟨_, _, e⟩
theorem info5 : (Try.prog.info? 5).map (fun i => (i.zero, i.size, i.bytes)) = some (some (.int .u8 0), 1, 1) := by kernel_rfl
theorem strCells_app (a b : ByteArray) : Lib.strCells (a ++ b) = Lib.strCells a ++ Lib.strCells b := by
  simp [Lib.strCells, ByteArray.data_append]
theorem PsM.app {r : Nat} {S : List Nat} {c : Nat → Pp} {w w1 : World} {i : Nat} {v u : Value} {s : ByteArray} (h : PsM r S c w) (hi : i < 16) (hv : w.cell? ⟨r, i * 5 + 4, none⟩ = some v) (hg : w.grownBy w1 v.ownBlock)
    (hu : w1.ownsRow 0 5 1 u ((c i).out.size + s.size) (Lib.strCells (c i).out ++ Lib.strCells s)) (hb : ∀ g, u.ownBlock = some g → v.ownBlock = some g ∨ w.heap.size ≤ g) :
    Lv r S (upd c i { c i with out := (c i).out ++ s }) w (w1.setCell ⟨r, i * 5 + 4, none⟩ u) :=
  h.put hi hv hg (by rw [ByteArray.size_append, strCells_app]; exact hu) hb
theorem app_lies {r : Nat} {S : List Nat} {c : Nat → Pp} {w : World} {i : Nat} {v : Value} (h : PsM r S c w) (hi : i < 16) (k4 : w.cell? ⟨r, i * 5 + 4, none⟩ = some v) (s : ByteArray) :
    ∀ (u : Value) (w1 : World), w1.ownsRow 0 5 1 u ((c i).out.size + s.size) (Lib.strCells (c i).out ++ Lib.strCells s) → w.grownBy w1 v.ownBlock → (∀ g, u.ownBlock = some g → v.ownBlock = some g ∨ w.heap.size ≤ g) →
      Lv r S (upd c i { c i with out := (c i).out ++ s }) w (w1.setCell ⟨r, i * 5 + 4, none⟩ u) ∧ (∀ o, w1.frozen? ⟨r, o, none⟩ = false) ∧ ∀ o, w1.cell? ⟨r, o, none⟩ = w.cell? ⟨r, o, none⟩ := by
  intro u w1 a b d
  have hr : w1.heap[r]? = w.heap[r]? := b.block r (h.lt r h.rS) fun e => by
    obtain ⟨cs, vs, m1, m2, m3, m4, m5⟩ := h.mem
    have e2 := (m2 i hi).2.2.2.2
    simp [World.cell?, m1, e2] at k4
    rw [← k4] at e
    exact (m4 i r hi e.symm).1 rfl
  exact ⟨h.app hi k4 b a d, fun o => by rw [← h.fz o]; exact World.frozen?_of_block hr, fun o => World.cell?_of_block hr⟩
set_option maxHeartbeats 1000000 in
theorem write_free (r i : Nat) (S : List Nat) (c : Nat → Pp) (s : ByteArray) (w : World) (h : PsM r S c w) (hi : i < 16) (h1 : (c i).br = false) (hl : (c i).out.size + s.size ≤ 140737488355328) :
    Calls Try.prog 29 #[.pointer (some ⟨r, i * 5, none⟩), .string s] w fun e w' => e = .returned (.int .i64 0) ∧ Lv r S (upd c i { c i with out := (c i).out ++ s }) w w' := by
  obtain ⟨i0, hi0, hz0, hz1, hz2⟩ := info_parts info5
  obtain ⟨k0, k1, k2, k3, v, k4, ho⟩ := h.cells hi
  have HA : Hid _ := app_lies h hi k4 s
  have HO : Hid (w.ownsRow 0 5 1 v (c i).out.size (Lib.strCells (c i).out)) := ho
  obtain ⟨o, ho'⟩ : ∃ o, i * 5 = o := ⟨_, rfl⟩
  rw [h1] at k2
  simp only [ho'] at HA k2 k4 ⊢
  clear h hi ho' h1 ho k0 k1 k3
  go_enter Try.func29, Try.ntmps29
  go_wp2_with (at_builtin; refine wpList_append_str rfl (.tmp 15) (.tmp 16) 51 9 rfl 5 i0 Try.underlying51 Try.underlying9 hi0 hz0 hz1 hz2 v _ _ rfl HO.out s rfl hl ?_; intro u w1 g1 g2 g3; obtain ⟨ua, uc, rfl⟩ := owns_slice g1; obtain ⟨g4, g5, g6⟩ := HA.out _ w1 g1 g2 g3; have g7 := (g6 (o + 4)).trans k4; have G4 : Hid _ := g4; clear g4 g1 g2 g3 g6)
  go_ret
  exact ⟨rfl, G4.out⟩
theorem write_ahead_lies {r : Nat} {S : List Nat} {c : Nat → Pp} {w w2 : World} {i : Nat} {q : ByteArray} {z : Int} (hi : i < 16) (h : Lv r S (upd c i { c i with out := (c i).out ++ q }) w w2) :
    Lv r S (upd c i { c i with out := (c i).out ++ q, lf := z }) w (w2.setCell ⟨r, i * 5 + 3, none⟩ (.int .i64 z)) := by
  refine h.trans fun S1 k1 => ?_
  have a2 := k1.lset hi 3 (by omega) (.int .i64 z) { c i with out := (c i).out ++ q, lf := z } (by rw [upd_self]) fun cs v h => by rw [upd_self] at h; exact h.lf z
  rw [upd_upd] at a2
  exact a2
set_option maxHeartbeats 1000000 in
theorem write_ahead (r i m : Nat) (S : List Nat) (c : Nat → Pp) (s : ByteArray) (w : World) (h : PsM r S c w) (hi : i < 16) (h1 : (c i).br = true) (hm : (c i).lf = (m : Int)) (hm2 : m ≤ 9223372036854775807) (hk : s.size < m) (hl : (c i).out.size + s.size ≤ 140737488355328) :
    Calls Try.prog 29 #[.pointer (some ⟨r, i * 5, none⟩), .string s] w fun e w' => e = .returned (.int .i64 0) ∧ Lv r S (upd c i { c i with out := (c i).out ++ s, lf := (((m - s.size : Nat)) : Int) }) w w' := by
  obtain ⟨i0, hi0, hz0, hz1, hz2⟩ := info_parts info5
  obtain ⟨k0, k1, k2, k3, v, k4, ho⟩ := h.cells hi
  have HA : Hid _ := app_lies h hi k4 s
  have HL : Hid (∀ {w2 : World}, Lv r S (upd c i { c i with out := (c i).out ++ s }) w w2 → Lv r S (upd c i { c i with out := (c i).out ++ s, lf := (((m - s.size : Nat)) : Int) }) w _) := fun {w2} h => write_ahead_lies hi h
  have HO : Hid (w.ownsRow 0 5 1 v (c i).out.size (Lib.strCells (c i).out)) := ho
  have hl2 : (c i).out.size + s.size ≤ 140737488355328 := hl
  have q0 : (0 : Int) ≤ ((s.size : Nat) : Int) := by omega
  have q1 : ((s.size : Nat) : Int) ≤ (s.size : Int) := by omega
  have q2 : IntKind.i64.wrap ((m : Int) - (s.size : Int)) = ((m - s.size : Nat) : Int) := by simp only [IntKind.wrap_i64]; omega
  obtain ⟨o, ho'⟩ : ∃ o, i * 5 = o := ⟨_, rfl⟩
  rw [h1] at k2
  rw [hm] at k3
  simp only [ho'] at HA HL k1 k2 k3 k4 ⊢
  clear h hi ho' h1 ho k0 hm
  go_enter Try.func29, Try.ntmps29
  go_wp2_with fail
  go_region_law (first
    | (refine step_append_str rfl (.tmp 31) (.tmp 34) 51 9 rfl 5 i0 Try.underlying51 Try.underlying9 hi0 hz0 hz1 hz2 v _ _ rfl HO.out (s) rfl hl2 ?_; intro u w1 g1 g2 g3; obtain ⟨ua, uc, rfl⟩ := owns_slice g1; obtain ⟨g4, g5, g6⟩ := HA.out _ w1 g1 ⟨g2.os, g2.tape, g2.output, g2.size, g2.block⟩ g3; have g7 := (g6 (o + 4)).trans k4; have g8 := (g6 (o + 3)).trans k3; have g9 := (g6 (o + 1)).trans k1; have G4 : Hid _ := g4; clear g4 g1 g2 g3 g6)
    | fail)
  all_goals (
    go_wp2_with fail
    go_ret
    exact ⟨rfl, HL.out G4.out⟩)
theorem write_over_lies {r : Nat} {S : List Nat} {c : Nat → Pp} {w w2 : World} {i : Nat} {q : ByteArray} {z : Int} (hi : i < 16) (h : Lv r S (upd c i { c i with out := (c i).out ++ q }) w w2) :
    Lv r S (upd c i { c i with out := (c i).out ++ q, lf := z, bk := true }) w ((w2.setCell ⟨r, i * 5 + 3, none⟩ (.int .i64 z)).setCell ⟨r, i * 5 + 1, none⟩ (.bool true)) := by
  refine h.trans fun S1 k1 => ?_
  have a2 := k1.lset hi 3 (by omega) (.int .i64 z) { c i with out := (c i).out ++ q, lf := z } (by rw [upd_self]) fun cs v h => by rw [upd_self] at h; exact h.lf z
  rw [upd_upd] at a2
  refine a2.trans fun S2 k2 => ?_
  have a3 := k2.lset hi 1 (by omega) (.bool true) { c i with out := (c i).out ++ q, lf := z, bk := true } (by rw [upd_self]) fun cs v h => by rw [upd_self] at h; exact h.bk true
  rw [upd_upd] at a3
  exact a3
set_option maxHeartbeats 1000000 in
theorem write_over (r i m : Nat) (S : List Nat) (c : Nat → Pp) (s : ByteArray) (w : World) (h : PsM r S c w) (hi : i < 16) (h1 : (c i).br = true) (hm : (c i).lf = (m : Int)) (hm2 : m ≤ 9223372036854775807) (hk : m < s.size) (hl : (c i).out.size + s.size ≤ 140737488355328) :
    Calls Try.prog 29 #[.pointer (some ⟨r, i * 5, none⟩), .string s] w fun e w' => e = .returned (.int .i64 12) ∧ Lv r S (upd c i { c i with out := (c i).out ++ s.extract 0 m, lf := 0, bk := true }) w w' := by
  obtain ⟨i0, hi0, hz0, hz1, hz2⟩ := info_parts info5
  obtain ⟨k0, k1, k2, k3, v, k4, ho⟩ := h.cells hi
  have ha := app_lies h hi k4 (s.extract 0 m)
  have HL : Hid (∀ {w2 : World}, Lv r S (upd c i { c i with out := (c i).out ++ s.extract 0 m }) w w2 → Lv r S (upd c i { c i with out := (c i).out ++ s.extract 0 m, lf := 0, bk := true }) w _) := fun {w2} h => write_over_lies hi h
  have HO : Hid (w.ownsRow 0 5 1 v (c i).out.size (Lib.strCells (c i).out)) := ho
  have hx : (s.extract 0 m).size = m := by simp; omega
  have HX : Hid ((s.extract 0 m).size = m) := hx
  rw [hx] at ha
  have HA : Hid _ := ha
  have hl2 : (c i).out.size + (s.extract 0 m).size ≤ 140737488355328 := by rw [hx]; omega
  have q0 : (0 : Int) ≤ ((m : Nat) : Int) := by omega
  have q1 : ((m : Nat) : Int) ≤ (s.size : Int) := by omega
  have q3 : ((m : Int) == (s.size : Int)) = false := by simp; omega
  obtain ⟨o, ho'⟩ : ∃ o, i * 5 = o := ⟨_, rfl⟩
  rw [h1] at k2
  rw [hm] at k3
  simp only [ho'] at HA HL k1 k2 k3 k4 ⊢
  clear h hi ho' h1 ho k0 hx hm ha
  go_enter Try.func29, Try.ntmps29
  go_wp2_with fail
  go_region_law (first
    | (refine step_append_str rfl (.tmp 31) (.tmp 34) 51 9 rfl 5 i0 Try.underlying51 Try.underlying9 hi0 hz0 hz1 hz2 v _ _ rfl HO.out (s.extract 0 m) rfl hl2 ?_; intro u w1 g1 g2 g3; rw [HX.out] at g1; obtain ⟨ua, uc, rfl⟩ := owns_slice g1; obtain ⟨g4, g5, g6⟩ := HA.out _ w1 g1 ⟨g2.os, g2.tape, g2.output, g2.size, g2.block⟩ g3; have g7 := (g6 (o + 4)).trans k4; have g8 := (g6 (o + 3)).trans k3; have g9 := (g6 (o + 1)).trans k1; have G4 : Hid _ := g4; clear g4 g1 g2 g3 g6)
    | fail)
  all_goals (
    go_wp2_with fail
    go_ret
    exact ⟨rfl, HL.out G4.out⟩)
/-- What a connection is behind a write, and what the write answers. -/
def Pp.wrote (p : Pp) (s : ByteArray) : Pp :=
  if p.br = false then { p with out := p.out ++ s }
  else if (s.size : Int) ≤ p.lf then { p with out := p.out ++ s, lf := p.lf - s.size }
  else { p with out := p.out ++ s.extract 0 p.lf.toNat, lf := 0, bk := true }
def Pp.wrE (p : Pp) (s : ByteArray) : Int := if p.br = false then 0 else if (s.size : Int) ≤ p.lf then 0 else 12
set_option maxHeartbeats 1000000 in
theorem write_even (r i m : Nat) (S : List Nat) (c : Nat → Pp) (s : ByteArray) (w : World) (h : PsM r S c w) (hi : i < 16) (h1 : (c i).br = true) (hm : (c i).lf = (m : Int)) (hm2 : m ≤ 9223372036854775807) (hk : s.size = m) (hl : (c i).out.size + s.size ≤ 140737488355328) :
    Calls Try.prog 29 #[.pointer (some ⟨r, i * 5, none⟩), .string s] w fun e w' => e = .returned (.int .i64 0) ∧ Lv r S (upd c i { c i with out := (c i).out ++ s, lf := 0 }) w w' := by
  obtain ⟨i0, hi0, hz0, hz1, hz2⟩ := info_parts info5
  obtain ⟨k0, k1, k2, k3, v, k4, ho⟩ := h.cells hi
  have HA : Hid _ := app_lies h hi k4 s
  have HL : Hid (∀ {w2 : World}, Lv r S (upd c i { c i with out := (c i).out ++ s }) w w2 → Lv r S (upd c i { c i with out := (c i).out ++ s, lf := 0 }) w _) := fun {w2} h => write_ahead_lies hi h
  have HO : Hid (w.ownsRow 0 5 1 v (c i).out.size (Lib.strCells (c i).out)) := ho
  have hl2 : (c i).out.size + s.size ≤ 140737488355328 := hl
  have q0 : (0 : Int) ≤ (s.size : Int) := by omega
  have q1 : (s.size : Int) ≤ (s.size : Int) := by omega
  have hlt : ¬ s.size < m := by omega
  obtain ⟨o, ho'⟩ : ∃ o, i * 5 = o := ⟨_, rfl⟩
  subst hk
  rw [h1] at k2
  rw [hm] at k3
  simp only [ho'] at HA HL k1 k2 k3 k4 ⊢
  clear h hi ho' h1 ho k0 hm
  go_enter Try.func29, Try.ntmps29
  go_wp2_with fail
  go_region_law (first
    | (refine step_append_str rfl (.tmp 31) (.tmp 34) 51 9 rfl 5 i0 Try.underlying51 Try.underlying9 hi0 hz0 hz1 hz2 v _ _ rfl HO.out s rfl hl2 ?_; intro u w1 g1 g2 g3; obtain ⟨ua, uc, rfl⟩ := owns_slice g1; obtain ⟨g4, g5, g6⟩ := HA.out _ w1 g1 ⟨g2.os, g2.tape, g2.output, g2.size, g2.block⟩ g3; have g7 := (g6 (o + 4)).trans k4; have g8 := (g6 (o + 3)).trans k3; have g9 := (g6 (o + 1)).trans k1; have G4 : Hid _ := g4; clear g4 g1 g2 g3 g6)
    | fail)
  all_goals (
    go_wp2_with fail
    go_ret
    exact ⟨rfl, HL.out G4.out⟩)
/-- write, of any connection. -/
theorem write_any (r i : Nat) (S : List Nat) (c : Nat → Pp) (s : ByteArray) (w : World) (h : PsM r S c w) (hi : i < 16) (hok : Pok (c i)) (hl : (c i).out.size + s.size ≤ 140737488355328) :
    Calls Try.prog 29 #[.pointer (some ⟨r, i * 5, none⟩), .string s] w fun e w' => e = .returned (.int .i64 ((c i).wrE s)) ∧ Lv r S (upd c i ((c i).wrote s)) w w' := by
  unfold Pp.wrE Pp.wrote
  by_cases hb : (c i).br = false
  · rw [if_pos hb, if_pos hb]
    exact write_free r i S c s w h hi hb hl
  · have hb1 : (c i).br = true := eq_true_of_ne_false hb
    rw [if_neg hb, if_neg hb]
    obtain ⟨m, hm⟩ : ∃ m : Nat, (c i).lf = (m : Int) := ⟨(c i).lf.toNat, by have := hok.l hb1; omega⟩
    have hm2 : m ≤ 9223372036854775807 := by
      have := hok.n
      unfold N at this
      omega
    rw [hm]
    by_cases h1 : s.size < m
    · rw [if_pos (by omega), if_pos (by omega)]
      have H := write_ahead r i m S c s w h hi hb1 hm hm2 h1 hl
      have e : ((m - s.size : Nat) : Int) = (m : Int) - (s.size : Int) := by omega
      rw [e] at H
      exact H
    · by_cases h2 : s.size = m
      · rw [if_pos (by omega), if_pos (by omega)]
        have e : (m : Int) - (s.size : Int) = 0 := by omega
        rw [e]
        exact write_even r i m S c s w h hi hb1 hm hm2 h2 hl
      · rw [if_neg (by omega), if_neg (by omega)]
        exact write_over r i m S c s w h hi hb1 hm hm2 (by omega) hl
theorem Write_nil (id : Int) (s : ByteArray) (w : World) : Calls Try.prog 20 #[.pointer none, .int .i64 id, .string s] w fun e w' => e = .returned (.int .i64 1) ∧ w' = w := by
  go_enter Try.func20, Try.ntmps20
  go_wp2_with (go_at_call 28; refine (whole_nil id w).mono ?_; rintro e w1 ⟨rfl, rfl⟩)
  go_ret
  exact ⟨rfl, rfl⟩
theorem Write_bad (r : Nat) (id : Int) (s : ByteArray) (w : World) (h : ¬ (0 ≤ id ∧ id < 16)) : Calls Try.prog 20 #[.pointer (some ⟨r, 0, none⟩), .int .i64 id, .string s] w fun e w' => e = .returned (.int .i64 1) ∧ w' = w := by
  have H := fun W => whole_bad r id W h
  clear h
  go_enter Try.func20, Try.ntmps20
  go_wp2_with (go_at_call 28; refine (H w).mono ?_; rintro e w1 ⟨rfl, rfl⟩)
  go_ret
  exact ⟨rfl, rfl⟩
theorem Write_gone (r i : Nat) (s : ByteArray) (S : List Nat) (c : Nat → Pp) (w : World) (h : PsM r S c w) (hi : i < 16) (h1 : (c i).op = false ∨ (c i).bk = true) :
    Calls Try.prog 20 #[.pointer (some ⟨r, 0, none⟩), .int .i64 (i : Int), .string s] w fun e w' => e = .returned (.int .i64 12) ∧ w' = w := by
  have H := whole_gone r i S c w h hi h1
  clear h h1
  go_enter Try.func20, Try.ntmps20
  go_wp2_with (go_at_call 28; refine H.mono ?_; rintro e w1 ⟨rfl, rfl⟩)
  go_ret
  exact ⟨rfl, rfl⟩
theorem Write_ok (r i : Nat) (S : List Nat) (c : Nat → Pp) (s : ByteArray) (w : World) (h : PsM r S c w) (hi : i < 16) (hok : Pok (c i)) (hl : (c i).out.size + s.size ≤ 140737488355328) (h1 : (c i).op = true) (h2 : (c i).bk = false) :
    Calls Try.prog 20 #[.pointer (some ⟨r, 0, none⟩), .int .i64 (i : Int), .string s] w fun e w' => e = .returned (.int .i64 ((c i).wrE s)) ∧ Lv r S (upd c i ((c i).wrote s)) w w' := by
  have H := whole_ok r i S c w h hi h1 h2
  have HW := write_any r i S c s w h hi hok hl
  obtain ⟨E, hE⟩ : ∃ E, (c i).wrE s = E := ⟨_, rfl⟩
  obtain ⟨p, hp⟩ : ∃ p, (c i).wrote s = p := ⟨_, rfl⟩
  rw [hE, hp] at HW
  rw [hE, hp]
  clear h hok hl h1 h2 hE hp
  go_enter Try.func20, Try.ntmps20
  go_wp2_with (first
    | (go_at_call 28; refine H.mono ?_; rintro e w1 ⟨rfl, rfl⟩)
    | (go_at_call 29; refine HW.mono ?_; rintro e w1 ⟨rfl, hL⟩; have HL : Hid _ := hL; clear hL))
  go_ret
  exact ⟨rfl, HL.out⟩
end Go.Proofs.Yteejehbgmkanpaa
