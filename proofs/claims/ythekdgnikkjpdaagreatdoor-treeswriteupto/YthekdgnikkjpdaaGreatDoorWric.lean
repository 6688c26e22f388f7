/-
  The contract of trees.rightAttrs over this program: for every list of attributes whose values are of at most 2000000 bytes.
-/
import Derived.Test.YthekdgnikkjpdaaGreatDoorBelb
import Derived.Maps.OwnSet
import Derived.StringKeys
import Derived.Test.YthekdgnikkjpdaaGreatDoorLive
import Derived.Laws.EntriesVeiled
namespace Go.Proofs.YthekdgnikkjpdaaGreatDoor
open Go.RowKit Go.Maps Go.WideMaps
def attrsOk : List (List UInt8) → List (List UInt8 × List UInt8) → Bool
  | _, [] => true
  | kn, p :: r => !kn.contains p.1 && name p.1 && right p.2 && attrsOk (p.1 :: kn) r
def rightA (l : List (List UInt8 × List UInt8)) : Bool := decide (l.length ≤ 6) && attrsOk [] l
/-- A set of names in block m. -/
def SetAt (w : World) (m n : Nat) (l : List (List UInt8)) : Prop :=
  ∃ D : DataW Unit, w.ownsMap Tryz.prog 9 (plainElem Tryz.prog 4) m n D ∧ ∀ x : List UInt8, D.atKey (.string x) (.lit (.bool false)) = .lit (.bool (l.contains x))
theorem keyLaw : Keyed Tryz.prog 9 := string_keyed Tryz.underlying9
theorem zero4 (w : World) : (zeroValue 4).run Tryz.prog w = .ok (.bool false) w := by kernel_rfl
set_option maxRecDepth 100000 in
theorem plain_bool_inv {v : Value} {z : DataW Unit × List MemPlace} (h : plainElem Tryz.prog 4 v = some z) : ∃ x, v = .bool x ∧ z = (.lit (.bool x), []) := by
  unfold plainElem at h
  rw [Tryz.underlying4] at h
  cases v <;> simp at h
  exact ⟨_, rfl, h.symm⟩
theorem set_made (w : World) : SetAt (w.alloc (.map #[] 0)) w.heap.size 0 [] := ⟨.map [], World.ownsMap_made _ _ _ _, fun _ => rfl⟩
theorem SetAt.look {w : World} {m n : Nat} {l : List (List UInt8)} (h : SetAt w m n l) (s : ByteArray) (hs : s.size ≤ maxLen) : (Instr.lookup 80 (.map (some m)) (.string s) false).run Tryz.prog w = .ok (.bool (l.contains s.data.toList)) w := by
  obtain ⟨D, h1, h2⟩ := h
  obtain ⟨v, ps, hrun, hv⟩ := h1.lookup keyLaw Tryz.underlying80 (zero4 w) (plainElem_bool Tryz.underlying4 false) (keyOf_string_mk Tryz.underlying9 hs)
  obtain ⟨x, rfl, hx⟩ := plain_bool_inv hv
  rw [h2] at hx
  simp only [Prod.mk.injEq, DataW.lit.injEq, Lit.bool.injEq] at hx
  rw [hrun, hx.1]
theorem SetAt.store {w' : World} {m n : Nat} {l : List (List UInt8)} {s : ByteArray} {D : DataW Unit} (h2 : ∀ x : List UInt8, D.atKey (.string x) (.lit (.bool false)) = .lit (.bool (l.contains x))) (hm : IsMap D) (h1 : w'.ownsMap Tryz.prog 9 (plainElem Tryz.prog 4) m n (D.put (.string s.data.toList) (.lit (.bool true)))) : SetAt w' m n (s.data.toList :: l) := by
  refine ⟨_, h1, fun x => ?_⟩
  by_cases e : x = s.data.toList
  · subst e
    rw [atKey_put_same hm (by simp [WideAt.IsKeyLit])]
    simp
  · rw [atKey_put_other (fun h => e (by simpa using h)), h2]
    simp [e]
theorem SetAt.below {w w' : World} {m n : Nat} {l : List (List UInt8)} (h : SetAt w m n l) (hb : Below w.heap.size w w') : SetAt w' m n l := by
  obtain ⟨D, ⟨es, clock, h1, h2⟩, h3⟩ := h
  exact ⟨D, ⟨es, clock, (hb.block m (lt_of_heap h1)).trans h1, h2⟩, h3⟩
theorem own_below {w w' : World} {m n : Nat} {D : DataW Unit} (h : w.ownsMap Tryz.prog 9 (plainElem Tryz.prog 4) m n D) (hb : Below w.heap.size w w') : w'.ownsMap Tryz.prog 9 (plainElem Tryz.prog 4) m n D := by
  obtain ⟨es, clock, h1, h2⟩ := h
  exact ⟨es, clock, (hb.block m (lt_of_heap h1)).trans h1, h2⟩
/-- A row with something in it lies in cells one behind the other. -/
theorem row_flat {P : Nat → Prop} {w : World} {ao : Option Addr} {n cap : Nat} {x : Value} {xs : List Value} (h : Row P w (.slice ao n cap) n (x :: xs)) : ∃ g off, ao = some ⟨g, off, none⟩ ∧ g < w.heap.size ∧ ∀ i y, (x :: xs)[i]? = some y → w.cell? ⟨g, off + i, none⟩ = some y := by
  obtain ⟨ao', cap', h1, h2⟩ := h
  obtain ⟨rfl, _, rfl⟩ := Value.slice.inj h1
  obtain ⟨ad, k1, _, k3⟩ := h2 0 x rfl
  subst k1
  obtain ⟨g, off, sp⟩ := ad
  have hsp : sp = none := by
    cases sp with
    | none => rfl
    | some q =>
      exfalso
      simp only [Addr.add, if_true, World.cell?] at k3
      split at k3
      · simp at k3
      · cases k3
  subst hsp
  refine ⟨g, off, rfl, lt_of_cell (a := ⟨g, off, none⟩) k3, fun i y hy => ?_⟩
  obtain ⟨ad', e1, _, e3⟩ := h2 i y hy
  cases e1
  have hadd : (⟨g, off, none⟩ : Addr).add i = ⟨g, off + i, none⟩ := by unfold Addr.add; split <;> simp_all
  rwa [hadd] at e3
theorem ret_b {a b : Bool} (h : a = b) : Ending.returned (.bool a) = .returned (.bool b) := by rw [h]
theorem attrsOk_step {l : List (List UInt8 × List UInt8)} {j : Nat} {p : List UInt8 × List UInt8} (kn : List (List UInt8)) (h : l[j]? = some p) : attrsOk kn (l.drop j) = (!kn.contains p.1 && name p.1 && right p.2 && attrsOk (p.1 :: kn) (l.drop (j + 1))) := by
  obtain ⟨hj, e⟩ := List.getElem?_eq_some_iff.1 h
  rw [List.drop_eq_getElem_cons hj, e]
  rfl
set_option maxHeartbeats 4000000 in
set_option maxRecDepth 100000 in
theorem rightAttrs_any {P : Nat → Prop} (ao : Option Addr) (cap : Nat) (l : List (List UInt8 × List UInt8)) (w : World) (hT : Tabs w) (h : Row P w (.slice ao l.length cap) l.length (pairCells l)) (hs : ∀ p ∈ l, p.1.length ≤ 2000000 ∧ p.2.length ≤ 2000000) (hlen : l.length ≤ 2000000) :
    Calls Tryz.prog 22 #[.slice ao l.length cap] w fun e w' => e = .returned (.bool (rightA l)) ∧ Below w.heap.size w w' := by
  by_cases h6 : 6 < l.length
  · have e : rightA l = false := by unfold rightA; simp; omega
    have h6' : (6 : Int) < (l.length : Int) := by omega
    rw [e]
    go_enter Tryz.func22, Tryz.ntmps22
    go_wp2
    go_ret
    exact ⟨rfl, Below.refl _ _⟩
  have e : rightA l = attrsOk [] l := by unfold rightA; rw [decide_eq_true (by omega)]; rfl
  rw [e]
  have hT3 := hT.size
  have h6' : (l.length : Int) ≤ 6 := by omega
  have hmm := @run_makeMap Tryz.prog
  have HR : Hid (Row _ _ _ _ _) := h
  have HS : Hid _ := hs
  obtain ⟨n, hn⟩ : ∃ n, l.length = n := ⟨_, rfl⟩
  rw [hn] at h6' ⊢
  have HN : Hid _ := hn
  clear e h hs hn h6 hlen
  go_enter Tryz.func22, Tryz.ntmps22
  go_wp2
  go_loopw [12] (fun i wr => ∃ (j : Nat) (kn : List (List UInt8)), j ≤ n ∧ i = .int .i64 j ∧ SetAt wr w.heap.size j kn ∧ Below w.heap.size w wr ∧ w.heap.size < wr.heap.size ∧ attrsOk [] l = attrsOk kn (l.drop j)) (fun i _ => n - (intOf i).toNat)
  case atStart => exact ⟨0, [], Nat.zero_le _, rfl, set_made w, (Below.refl _ _).alloc (Nat.le_refl _) _, by simp, rfl⟩
  case round =>
    obtain ⟨j, kn, hj, rfl, hset, hbw, hsz, hres⟩ := hrel
    have HRES : Hid _ := hres
    clear hres
    by_cases hlt : j < n
    · obtain ⟨p, hp⟩ : ∃ p, l[j]? = some p := ⟨_, List.getElem?_eq_getElem (by rw [HN.out]; exact hlt)⟩
      have hps := HS.out p (List.mem_of_getElem? hp)
      obtain ⟨gx, hgx⟩ := pair_get l j p hp
      obtain ⟨g, off, rfl, hg, hcells⟩ : ∃ g off, ao = some ⟨g, off, none⟩ ∧ g < w.heap.size ∧ ∀ i y, (pairCells l)[i]? = some y → w.cell? ⟨g, off + i, none⟩ = some y := by
        have hr := HR.out
        rw [HN.out] at hr
        cases hpc : pairCells l with
        | nil => rw [hpc] at gx; simp at gx
        | cons a b => rw [hpc] at hr; exact row_flat hr
      have k0 : wr.cell? ⟨g, off + j * 2, none⟩ = some (.string ⟨p.1.toArray⟩) := by rw [hbw.cell (p := ⟨g, _, none⟩) hg]; exact hcells _ _ gx
      have k1 : wr.cell? ⟨g, off + (j * 2 + 1), none⟩ = some (.string ⟨p.2.toArray⟩) := by rw [hbw.cell (p := ⟨g, _, none⟩) hg]; exact hcells _ _ hgx
      have k1' : wr.cell? ⟨g, off + j * 2 + 1, none⟩ = some (.string ⟨p.2.toArray⟩) := by rw [Nat.add_assoc]; exact k1
      have hstep := attrsOk_step kn hp
      have hs1 : (⟨p.1.toArray⟩ : ByteArray).size ≤ 2000000 := by rw [size_list]; exact hps.1
      have hs2 : (⟨p.2.toArray⟩ : ByteArray).size ≤ 2000000 := by rw [size_list]; exact hps.2
      have hgr : g < wr.heap.size := by have := hbw.size; omega
      have hal : ∀ o, Below wr.heap.size wr (wr.alloc o) := fun o => (Below.refl _ _).alloc (Nat.le_refl _) o
      have hi0 : (0 : Int) ≤ (j : Int) := Int.natCast_nonneg _
      have hi1 : (j : Int) < (n : Int) := by omega
      cases hk : kn.contains p.1 with
      | true =>
        have e : attrsOk [] l = false := by rw [HRES.out, hstep, hk]; rfl
        have hlk : ∀ o, (Instr.lookup 80 (.map (some w.heap.size)) (.string ⟨p.1.toArray⟩) false).run Tryz.prog (wr.alloc o) = .ok (.bool true) (wr.alloc o) := fun o => by rw [(hset.below (hal o)).look _ (by unfold maxLen; omega)]; rw [show (⟨p.1.toArray⟩ : ByteArray).data.toList = p.1 from rfl, hk]
        have HE : Hid _ := e
        clear e hstep hk hset hcells gx hgx hp
        go_wp2_with fail
        go_ret
        exact ⟨ret_b HE.out.symm, hbw.alloc hbw.size _⟩
      | false =>
        obtain ⟨D, hD1, hD2⟩ := hset
        have hset : SetAt wr w.heap.size j kn := ⟨D, hD1, hD2⟩
        have hlk : ∀ o, (Instr.lookup 80 (.map (some w.heap.size)) (.string ⟨p.1.toArray⟩) false).run Tryz.prog (wr.alloc o) = .ok (.bool false) (wr.alloc o) := fun o => by rw [(hset.below (hal o)).look _ (by unfold maxLen; omega)]; rw [show (⟨p.1.toArray⟩ : ByteArray).data.toList = p.1 from rfl, hk]
        cases hnm : name p.1 with
        | false =>
          have e : attrsOk [] l = false := by rw [HRES.out, hstep, hk, hnm]; rfl
          have H2 := fun W => name_at ⟨p.1.toArray⟩ false hnm W
          have HE : Hid _ := e
          clear e hstep hk hset hcells gx hgx hp hnm hD1 hD2
          go_wp2_with (go_at_call 21; refine (H2 _).mono ?_; rintro e w2 ⟨rfl, hb2⟩)
          go_ret
          exact ⟨ret_b HE.out.symm, (hbw.alloc hbw.size _).trans (hb2.mono (by have := hbw.size; simp; omega))⟩
        | true =>
          have H2 := fun W => name_at ⟨p.1.toArray⟩ true hnm W
          have hTa : ∀ o, Tabs (wr.alloc o) := fun o => hT.below hT3 (hbw.alloc hbw.size o)
          cases hrt : right p.2 with
          | false =>
            have e : attrsOk [] l = false := by rw [HRES.out, hstep, hk, hnm, hrt]; rfl
            have H3 := fun W hW => right_at ⟨p.2.toArray⟩ 2 (by show rightN p.2 = 2; unfold rightN; rw [hrt]; rfl) W hW (by omega)
            have HE : Hid _ := e
            have HTa : Hid _ := hTa
            clear e hstep hk hset hcells gx hgx hp hnm hD1 hD2 hrt hTa
            go_wp2_with (first | (go_at_call 21; refine (H2 _).mono ?_; rintro e w2 ⟨rfl, hb2⟩; obtain ⟨hc2, _⟩ := bcell hb2; have hT2 := (HTa.out _).below (by simp; omega) hb2) | (go_at_call 23; refine (H3 _ hT2).mono ?_; rintro e w3 ⟨rfl, hb3⟩))
            go_ret
            have b2 := (hbw.alloc hbw.size _).trans (hb2.mono (by have := hbw.size; simp; omega))
            exact ⟨ret_b HE.out.symm, b2.trans (hb3.mono b2.size)⟩
          | true =>
            have e : attrsOk [] l = attrsOk (p.1 :: kn) (l.drop (j + 1)) := by rw [HRES.out, hstep, hk, hnm, hrt]; rfl
            have H3 := fun W hW => right_at ⟨p.2.toArray⟩ 0 (by show rightN p.2 = 0; unfold rightN; rw [hrt]; rfl) W hW (by omega)
            have HE : Hid _ := e
            have HTa : Hid _ := hTa
            have HD1 : Hid (World.ownsMap _ _ _ _ _ _ _) := hD1
            have HD2 : Hid _ := hD2
            have him := World.ownsMap.isMap hD1
            clear e hstep hk hset hcells gx hgx hp hnm hD1 hD2 hrt hTa
            go_wp2_with (first | (go_at_call 21; refine (H2 _).mono ?_; rintro e w2 ⟨rfl, hb2⟩; obtain ⟨hc2, _⟩ := bcell hb2; have hT2 := (HTa.out _).below (by simp; omega) hb2; have hz2 := hb2.size; simp at hz2) | (go_at_call 23; refine (H3 _ hT2).mono ?_; rintro e w3 ⟨rfl, hb3⟩; have q0 : w3.cell? ⟨wr.heap.size, 0, none⟩ = some (.string ⟨p.1.toArray⟩) := ((hb3.cell (p := ⟨wr.heap.size, 0, none⟩) (show wr.heap.size < w2.heap.size by omega)).trans ((hb2.cell (p := ⟨wr.heap.size, 0, none⟩) (by simp)).trans (by simp))); have hz3 := hb3.size; have hm3 : w3.ownsMap Tryz.prog 9 (plainElem Tryz.prog 4) w.heap.size j D := (own_below (own_below HD1.out ((hal _).trans (hb2.mono (by simp)))) hb3)) | (at_mapUpdate; refine wpList_mapUpdate_own _ rfl _ _ _ 80 rfl 9 4 keyLaw Tryz.underlying80 _ w.heap.size j D rfl hm3 (by unfold maxLen; omega) _ _ _ rfl rfl (keyOf_string_mk Tryz.underlying9 (by unfold maxLen; omega)) _ [] (plainElem_bool Tryz.underlying4 true) ?_; intro w4 hown4 hgrow4))
            have b2 := (hbw.alloc hbw.size (.cells #[.string ⟨p.1.toArray⟩, .string ⟨p.2.toArray⟩] 34)).trans (hb2.mono (by have := hbw.size; simp; omega))
            have b3 := b2.trans (hb3.mono b2.size)
            have b4 := b3.grown hgrow4 b3.size (fun k hk => by cases hk; exact Nat.le_refl _)
            go_roundw
            case rel => exact ⟨j + 1, p.1 :: kn, by omega, by go_num, SetAt.store (s := ⟨p.1.toArray⟩) HD2.out him hown4, b4, by have := hgrow4.size; omega, HE.out⟩
            case measure => simp [intOf]; omega
    · have hjn : j = n := by omega
      have e : attrsOk [] l = true := by rw [HRES.out, hjn, ← HN.out, List.drop_length]; rfl
      have HE : Hid _ := e
      clear e hjn
      go_wp2
      go_ret
      exact ⟨ret_b HE.out.symm, hbw⟩
end Go.Proofs.YthekdgnikkjpdaaGreatDoor
/-
  The contract of trees.Right over this program: for every element of finite depth whose texts are of at most 2000000 bytes.
-/
namespace Go.Proofs.YthekdgnikkjpdaaGreatDoor
open Go.RowKit
def rightE : Nat → El → Bool
  | 0, _ => false
  | d + 1, e => decide (e.kids.length ≤ 16) && (name e.nm && (rightA e.attrs && (right e.text && e.kids.all (rightE d))))
/-- Its texts are small, so deep. -/
def smallE : Nat → El → Prop
  | 0, _ => True
  | n + 1, e => e.text.length ≤ 2000000 ∧ e.attrs.length ≤ 2000000 ∧ (∀ p ∈ e.attrs, p.1.length ≤ 2000000 ∧ p.2.length ≤ 2000000) ∧ e.kids.length ≤ 2000000 ∧ ∀ k ∈ e.kids, smallE n k
theorem kids_get {R : El → Value → Value → Value → Value → Prop} : ∀ {l : List El} {xs : List Value} (j : Nat) {e : El}, KidsAt R l xs → l[j]? = some e → ∃ a b c d, xs[j * 4]? = some a ∧ xs[j * 4 + 1]? = some b ∧ xs[j * 4 + 2]? = some c ∧ xs[j * 4 + 3]? = some d ∧ R e a b c d
  | [], _, _, _, _, h => by simp at h
  | _ :: _, _, 0, _, ⟨a, b, c, d, ys, e, k1, k2⟩, h => by
    simp at h
    subst h
    exact ⟨a, b, c, d, by rw [e]; rfl, by rw [e]; rfl, by rw [e]; rfl, by rw [e]; rfl, k1⟩
  | _ :: l, _, j + 1, _, ⟨a, b, c, d, ys, e, k1, k2⟩, h => by
    obtain ⟨a', b', c', d', h0, h1, h2, h3, h4⟩ := kids_get j k2 (by simpa using h)
    have e4 : ∀ i, (a :: b :: c :: d :: ys)[(j + 1) * 4 + i]? = ys[j * 4 + i]? := fun i => by rw [show (j + 1) * 4 + i = j * 4 + i + 1 + 1 + 1 + 1 by omega]; rfl
    rw [e]
    exact ⟨a', b', c', d', (e4 0).trans h0, (e4 1).trans h1, (e4 2).trans h2, (e4 3).trans h3, h4⟩
def rightF (c : Nat) : Value := .func (.func 20) #[] #[.pointer (some ⟨c, 0, none⟩)]
theorem all_drop {p : El → Bool} {l : List El} {j : Nat} {k : El} (h : l[j]? = some k) : (l.drop j).all p = (p k && (l.drop (j + 1)).all p) := by
  obtain ⟨hj, e⟩ := List.getElem?_eq_some_iff.1 h
  rw [List.drop_eq_getElem_cons hj, e]
  rfl
set_option maxHeartbeats 4000000 in
set_option maxRecDepth 100000 in
theorem rightC_any {P : Nat → Prop} (c : Nat) : ∀ (d : Nat) (m : Nat) (e : El) (s1 s2 : ByteArray) (ao1 ao2 : Option Addr) (n1 n2 cap1 cap2 : Nat) (w : World), d ≤ 4 → Tabs w → w.cell? ⟨c, 0, none⟩ = some (rightF c) → smallE d e → (d ≠ 0 → ElAt P w m e (.string s1) (.slice ao1 n1 cap1) (.string s2) (.slice ao2 n2 cap2)) →
    Calls Tryz.prog 20 #[.agg #[.string s1, .slice ao1 n1 cap1, .string s2, .slice ao2 n2 cap2], .int .i64 (5 - (d : Int)), .pointer (some ⟨c, 0, none⟩)] w fun e' w' => e' = .returned (.bool (rightE d e)) ∧ Below w.heap.size w w' := by
  intro d
  induction d with
  | zero =>
    intro m e s1 s2 ao1 ao2 n1 n2 cap1 cap2 w _ _ _ _ _
    have e5 : (5 : Int) - ((0 : Nat) : Int) = 5 := by omega
    rw [e5]
    go_enter Tryz.func20, Tryz.ntmps20
    go_wp2_with fail
    go_ret
    exact ⟨rfl, (Below.refl _ _).alloc (Nat.le_refl _) _⟩
  | succ d ih =>
    intro m e s1 s2 ao1 ao2 n1 n2 cap1 cap2 w hd hT hc hsm hel
    have hel := hel (by omega)
    cases m with
    | zero => exact hel.elim
    | succ m =>
    obtain ⟨q1, q2, q3, xs, q4, q5⟩ := hel
    obtain ⟨ao', cap', q2e, _⟩ := id q2
    obtain ⟨rfl, rfl, rfl⟩ := Value.slice.inj q2e
    obtain ⟨ao', cap', q4e, _⟩ := id q4
    obtain ⟨rfl, rfl, rfl⟩ := Value.slice.inj q4e
    obtain rfl := Value.string.inj q1
    obtain rfl := Value.string.inj q3
    obtain ⟨m1, m2, m3, m4, m5⟩ := hsm
    have hT3 := hT.size
    have hcl := lt_of_cell hc
    obtain ⟨dd, hdd⟩ : ∃ dd : Int, (5 : Int) - ((d + 1 : Nat) : Int) = dd := ⟨_, rfl⟩
    have hd1 : dd + 1 = 5 - (d : Int) := by omega
    have hd4 : ¬ 4 < dd := by omega
    have hdl : dd ≤ 4 := by omega
    have hd0 : 0 ≤ dd := by omega
    rw [hdd]
    have hw0 : ∀ o, Below w.heap.size w (w.alloc o) := fun o => (Below.refl _ _).alloc (Nat.le_refl _) o
    have hm4 : (e.kids.length : Int) ≤ 2000000 := by omega
    have hst : (⟨e.text.toArray⟩ : ByteArray).size ≤ 2000000 := by rw [size_list]; exact m1
    by_cases h16 : 16 < e.kids.length
    · have er : rightE (d + 1) e = false := by unfold rightE; rw [decide_eq_false (by omega)]; rfl
      have h16' : (16 : Int) < (e.kids.length : Int) := by omega
      rw [er]
      clear q2 q4 q5 er h16 hdd hd1
      go_enter Tryz.func20, Tryz.ntmps20
      go_wp2_with fail
      go_ret
      exact ⟨rfl, hw0 _⟩
    have h16' : ¬ (16 : Int) < (e.kids.length : Int) := by omega
    have e0 : rightE (d + 1) e = (name e.nm && (rightA e.attrs && (right e.text && e.kids.all (rightE d)))) := by unfold rightE; rw [decide_eq_true (by omega)]; rfl
    rw [e0]
    have Q2 : Hid (Row _ _ _ _ _) := q2
    have Q4 : Hid (Row _ _ _ _ _) := q4
    have Q5 : Hid (KidsAt _ _ _) := q5
    have HD : Hid _ := hdd
    have HD1 : Hid _ := hd1
    clear q2 q4 q5 e0 hdd hd1 q2e q4e q1 q3
    have H2 := fun (r : Bool) (h : name e.nm = r) W => name_at ⟨e.nm.toArray⟩ r h W
    have H3 := fun (r : Bool) (h : rightA e.attrs = r) W (hb : Below w.heap.size w W) => (h ▸ rightAttrs_any ao1 cap1 e.attrs W (hT.below hT3 hb) (Row.step Q2.out (row_below hb)) m3 m2 : Calls Tryz.prog 22 #[.slice ao1 e.attrs.length cap1] W fun e w' => e = .returned (.bool r) ∧ Below W.heap.size W w')
    have H4 := fun (r : Int) (h : rightN e.text = r) W (hb : Below w.heap.size w W) => right_at ⟨e.text.toArray⟩ r h W (hT.below hT3 hb) (by omega)
    cases hn : name e.nm with
    | false =>
      have K2 := H2 false hn
      rw [Bool.false_and]
      clear H2 H3 H4 hn
      go_enter Tryz.func20, Tryz.ntmps20
      go_wp2_with (go_at_call 21; refine (K2 _).mono ?_; rintro e w2 ⟨rfl, hb2⟩)
      go_ret
      exact ⟨rfl, (hw0 _).trans (hb2.mono (by simp))⟩
    | true =>
      have K2 := H2 true hn
      rw [Bool.true_and]
      cases ha : rightA e.attrs with
      | false =>
        have K3 := H3 false ha
        rw [Bool.false_and]
        clear H2 H3 H4 hn ha
        go_enter Tryz.func20, Tryz.ntmps20
        go_wp2_with (first | (go_at_call 21; refine (K2 _).mono ?_; rintro e w2 ⟨rfl, hb2⟩; obtain ⟨hc2, _⟩ := bcell hb2; have b2 := (hw0 _).trans (hb2.mono (by simp))) | (go_at_call 22; refine (K3 _ b2).mono ?_; rintro e w3 ⟨rfl, hb3⟩))
        go_ret
        exact ⟨rfl, b2.trans (hb3.mono b2.size)⟩
      | true =>
        have K3 := H3 true ha
        rw [Bool.true_and]
        cases hr : right e.text with
        | false =>
          have K4 := H4 2 (by unfold rightN; rw [hr]; rfl)
          rw [Bool.false_and]
          clear H2 H3 H4 hn ha hr
          go_enter Tryz.func20, Tryz.ntmps20
          go_wp2_with (first | (go_at_call 21; refine (K2 _).mono ?_; rintro e w2 ⟨rfl, hb2⟩; obtain ⟨hc2, _⟩ := bcell hb2; have b2 := (hw0 _).trans (hb2.mono (by simp)); have z2 := hb2.size; simp at z2) | (go_at_call 22; refine (K3 _ b2).mono ?_; rintro e w3 ⟨rfl, hb3⟩; have b3 := b2.trans (hb3.mono b2.size); have t2 : w3.cell? ⟨w.heap.size, 2, none⟩ = some (.string ⟨e.text.toArray⟩) := ((hb3.cell (p := ⟨w.heap.size, 2, none⟩) (show w.heap.size < w2.heap.size by omega)).trans ((hb2.cell (p := ⟨w.heap.size, 2, none⟩) (by simp)).trans (by simp)))) | (go_at_call 23; refine (K4 _ b3).mono ?_; rintro e w4 ⟨rfl, hb4⟩))
          go_ret
          exact ⟨rfl, b3.trans (hb4.mono b3.size)⟩
        | true =>
          have K4 := H4 0 (by unfold rightN; rw [hr]; rfl)
          rw [Bool.true_and]
          clear H2 H3 H4 hn ha hr
          go_enter Tryz.func20, Tryz.ntmps20
          go_wp2_with (first | (go_at_call 21; refine (K2 _).mono ?_; rintro e w2 ⟨rfl, hb2⟩; obtain ⟨hc2, _⟩ := bcell hb2; have b2 := (hw0 _).trans (hb2.mono (by simp)); have z2 := hb2.size; simp at z2) | (go_at_call 22; refine (K3 _ b2).mono ?_; rintro e w3 ⟨rfl, hb3⟩; have b3 := b2.trans (hb3.mono b2.size); have t2 : w3.cell? ⟨w.heap.size, 2, none⟩ = some (.string ⟨e.text.toArray⟩) := ((hb3.cell (p := ⟨w.heap.size, 2, none⟩) (show w.heap.size < w2.heap.size by omega)).trans ((hb2.cell (p := ⟨w.heap.size, 2, none⟩) (by simp)).trans (by simp)))) | (go_at_call 23; refine (K4 _ b3).mono ?_; rintro e w4 ⟨rfl, hb4⟩; have b4 := b3.trans (hb4.mono b3.size); have z3 := hb3.size; have t3 : w4.cell? ⟨w.heap.size, 3, none⟩ = some (.slice ao2 e.kids.length cap2) := ((hb4.cell (p := ⟨w.heap.size, 3, none⟩) (show w.heap.size < w3.heap.size by omega)).trans ((hb3.cell (p := ⟨w.heap.size, 3, none⟩) (show w.heap.size < w2.heap.size by omega)).trans ((hb2.cell (p := ⟨w.heap.size, 3, none⟩) (by simp)).trans (by simp))))))
          have hgrd : ∀ j k, e.kids[j]? = some k → ∃ g off u1 a1 N1 p1 u2 a2 N2 p2, ao2 = some ⟨g, off, none⟩ ∧ g < w.heap.size ∧ w.cell? ⟨g, off + j * 4, none⟩ = some (.string u1) ∧ w.cell? ⟨g, off + (j * 4 + 1), none⟩ = some (.slice a1 N1 p1) ∧ w.cell? ⟨g, off + (j * 4 + 2), none⟩ = some (.string u2) ∧ w.cell? ⟨g, off + (j * 4 + 3), none⟩ = some (.slice a2 N2 p2) ∧ ElAt P w m k (.string u1) (.slice a1 N1 p1) (.string u2) (.slice a2 N2 p2) := fun j k hk => by
            obtain ⟨a, b, c', d', i0, i1, i2, i3, i4⟩ := kids_get j Q5.out hk
            obtain ⟨g, off, e1, e2, e3⟩ : ∃ g off, ao2 = some ⟨g, off, none⟩ ∧ g < w.heap.size ∧ ∀ i y, xs[i]? = some y → w.cell? ⟨g, off + i, none⟩ = some y := by
              have hr := Q4.out
              cases xs with
              | nil => simp at i0
              | cons x xs => exact row_flat hr
            have h4 := id i4
            have h5 : ElE P w k a b c' d' := ⟨m, i4⟩
            obtain ⟨aA, cA, aB, cB, rfl, rfl⟩ := h5.shape
            obtain ⟨rfl, _, rfl, _⟩ := h5.parts
            exact ⟨g, off, _, aA, _, cA, _, aB, _, cB, e1, e2, e3 _ _ i0, e3 _ _ i1, e3 _ _ i2, e3 _ _ i3, h4⟩
          have HG : Hid _ := hgrd
          have B4 : Hid (Below _ _ _) := b4
          obtain ⟨n, hn⟩ : ∃ n, e.kids.length = n := ⟨_, rfl⟩
          rw [hn] at h16' hm4 ⊢
          have HN : Hid _ := hn
          clear hgrd hn K2 K3 K4 hb2 hb3 hb4 hc2 b2 b3 t2 t3
          go_loopw [35] (fun i wr => ∃ j : Nat, j ≤ n ∧ i = .int .i64 j ∧ Below w.heap.size w wr ∧ e.kids.all (rightE d) = (e.kids.drop j).all (rightE d)) (fun i _ => n - (intOf i).toNat)
          case atStart => exact ⟨0, Nat.zero_le _, rfl, B4.out, rfl⟩
          case round =>
            obtain ⟨j, hj, rfl, hbw, hres⟩ := hrel
            have HRES : Hid _ := hres
            clear hres b4
            by_cases hlt : j < n
            · obtain ⟨kd, hk⟩ : ∃ kd, e.kids[j]? = some kd := ⟨_, List.getElem?_eq_getElem (by rw [HN.out]; exact hlt)⟩
              obtain ⟨g, off, u1, a1, N1, p1, u2, a2, N2, p2, rfl, hg, x0, x1, x2, x3, hE⟩ := HG.out j kd hk
              have y0 : wr.cell? ⟨g, off + j * 4, none⟩ = some (.string u1) := by rw [hbw.cell (p := ⟨g, _, none⟩) hg]; exact x0
              have y1 : wr.cell? ⟨g, off + j * 4 + 1, none⟩ = some (.slice a1 N1 p1) := by rw [hbw.cell (p := ⟨g, _, none⟩) hg, Nat.add_assoc]; exact x1
              have y2 : wr.cell? ⟨g, off + j * 4 + 2, none⟩ = some (.string u2) := by rw [hbw.cell (p := ⟨g, _, none⟩) hg, Nat.add_assoc]; exact x2
              have y3 : wr.cell? ⟨g, off + j * 4 + 3, none⟩ = some (.slice a2 N2 p2) := by rw [hbw.cell (p := ⟨g, _, none⟩) hg, Nat.add_assoc]; exact x3
              have yc : wr.cell? ⟨c, 0, none⟩ = some (rightF c) := by rw [hbw.cell (p := ⟨c, 0, none⟩) hcl]; exact hc
              unfold rightF at yc
              have hgr : g < wr.heap.size := by have := hbw.size; omega
              have hcr : c < wr.heap.size := by have := hbw.size; omega
              have hi0 : (0 : Int) ≤ (j : Int) := Int.natCast_nonneg _
              have hi1 : (j : Int) < (n : Int) := by omega
              have hstep := all_drop (p := rightE d) hk
              have H5 : ∀ o, Calls Tryz.prog 20 #[.agg #[.string u1, .slice a1 N1 p1, .string u2, .slice a2 N2 p2], .int .i64 (dd + 1), .pointer (some ⟨c, 0, none⟩)] (wr.alloc o) fun e' w' => e' = .returned (.bool (rightE d kd)) ∧ Below (wr.alloc o).heap.size (wr.alloc o) w' := fun o => by
                rw [HD1.out]
                have hb := hbw.alloc hbw.size o
                exact ih m kd u1 u2 a1 a2 N1 N2 p1 p2 _ (by omega) (hT.below hT3 hb) (by rw [hb.cell (p := ⟨c, 0, none⟩) hcl]; exact hc) (m5 kd (List.mem_of_getElem? hk)) fun _ => hE.step (row_below hb)
              clear x0 x1 x2 x3 hE hk
              cases hv : rightE d kd with
              | false =>
                rw [hv] at H5
                have er : e.kids.all (rightE d) = false := by rw [HRES.out, hstep, hv]; rfl
                have HE : Hid _ := er
                clear er hstep hv
                go_wp2_with (go_at_call 20; refine (H5 _).mono ?_; rintro e w5 ⟨rfl, hb5⟩)
                go_ret
                exact ⟨ret_b HE.out.symm, (hbw.alloc hbw.size _).trans (hb5.mono (by have := hbw.size; simp; omega))⟩
              | true =>
                rw [hv] at H5
                have er : e.kids.all (rightE d) = (e.kids.drop (j + 1)).all (rightE d) := by rw [HRES.out, hstep, hv]; rfl
                have HE : Hid _ := er
                clear er hstep hv
                go_wp2_with (go_at_call 20; refine (H5 _).mono ?_; rintro e w5 ⟨rfl, hb5⟩)
                go_roundw
                case rel => exact ⟨j + 1, by omega, by go_num, (hbw.alloc hbw.size _).trans (hb5.mono (by have := hbw.size; simp; omega)), HE.out⟩
                case measure => simp [intOf]; omega
            · have er : e.kids.all (rightE d) = true := by rw [HRES.out, show j = e.kids.length by rw [HN.out]; omega, List.drop_length]; rfl
              have HE : Hid _ := er
              clear er
              go_wp2_with fail
              go_ret
              exact ⟨ret_b HE.out.symm, hbw⟩
end Go.Proofs.YthekdgnikkjpdaaGreatDoor
/-
  The contract of trees.Right over this program.
-/
namespace Go.Proofs.YthekdgnikkjpdaaGreatDoor
open Go.RowKit
set_option maxHeartbeats 1000000 in
set_option maxRecDepth 100000 in
theorem rightEl_any {P : Nat → Prop} (m : Nat) (e : El) (s1 s2 : ByteArray) (ao1 ao2 : Option Addr) (n1 n2 cap1 cap2 : Nat) (w : World) (hT : Tabs w) (hsm : smallE 4 e) (hel : ElAt P w m e (.string s1) (.slice ao1 n1 cap1) (.string s2) (.slice ao2 n2 cap2)) :
    Calls Tryz.prog 9 #[.agg #[.string s1, .slice ao1 n1 cap1, .string s2, .slice ao2 n2 cap2]] w fun e' w' => e' = .returned (.bool (rightE 4 e)) ∧ Below w.heap.size w w' := by
  have hT3 := hT.size
  have hb : ∀ o1 o2, Below w.heap.size w ((w.alloc o1).alloc o2) := fun o1 o2 => ((Below.refl _ _).alloc (Nat.le_refl _) _).alloc (by simp) _
  have H : ∀ o1, Calls Tryz.prog 20 #[.agg #[.string s1, .slice ao1 n1 cap1, .string s2, .slice ao2 n2 cap2], .int .i64 1, .pointer (some ⟨w.heap.size + 1, 0, none⟩)] ((w.alloc o1).alloc (.cells #[rightF (w.heap.size + 1)] 56)) fun e' w' => e' = .returned (.bool (rightE 4 e)) ∧ Below ((w.alloc o1).alloc (.cells #[rightF (w.heap.size + 1)] 56)).heap.size ((w.alloc o1).alloc (.cells #[rightF (w.heap.size + 1)] 56)) w' := fun o1 =>
    rightC_any (w.heap.size + 1) 4 m e s1 s2 ao1 ao2 n1 n2 cap1 cap2 _ (by omega) (hT.below hT3 (hb _ _)) (by simp) hsm fun _ => hel.step (row_below (hb _ _))
  unfold rightF at H
  clear hel hsm hT
  have hmf : ∀ (fn : Fn) (first cap : Array Value) (w : World), (Instr.makeFunc fn first cap).run Tryz.prog w = .ok (.func fn first cap) w := fun _ _ _ _ => rfl
  go_enter Tryz.func9, Tryz.ntmps9
  go_wp2_with (go_at_call 20; refine (H _).mono ?_; rintro e w5 ⟨rfl, hb5⟩)

  go_ret
  exact ⟨rfl, (hb _ _).trans (hb5.mono (by simp; omega))⟩
end Go.Proofs.YthekdgnikkjpdaaGreatDoor
