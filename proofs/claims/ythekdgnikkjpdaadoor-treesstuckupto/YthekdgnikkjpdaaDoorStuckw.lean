/-
  The walk of the statement TreesStuck over this program: for every row of tokens, each of a bounded size, it returns true.
-/
import Derived.Test.YthekdgnikkjpdaaDoorDeepw
import Derived.Test.YthekdgnikkjpdaaDoorOpnt
namespace Go.Proofs.YthekdgnikkjpdaaDoor
open Go.RowKit
theorem addN_failed (S : Bs) (t : Tok) : (addN S t).1.failed = S.failed := by
  unfold addN
  repeat' split
  all_goals rfl
theorem takeN_failed (S : Bs) (t : Tok) : (takeN S t).1.failed = (takeN S t).2.2 := by
  unfold takeN
  by_cases h : S.failed = 0
  · rw [if_pos h]
    split
    · show (addN S t).1.failed = 0
      rw [addN_failed, h]
    · rfl
  · rw [if_neg h]
theorem takeN_none (S : Bs) (t : Tok) (h : (takeN S t).2.2 ≠ 0) : (takeN S t).2.1 = none := by
  unfold takeN at h ⊢
  by_cases hf : S.failed = 0
  · rw [if_pos hf] at h ⊢
    by_cases hc : faultN S t = 0
    · rw [if_pos hc] at h
      exact absurd rfl h
    · rw [if_neg hc]
  · rw [if_neg hf]
theorem takeN_stuck (S : Bs) (t : Tok) (h : S.failed ≠ 0) : (takeN S t).2.2 = S.failed := by
  unfold takeN
  rw [if_neg h]
theorem depthN_le {S : Bs} (h : BOk S) : 0 ≤ depthN S ∧ depthN S ≤ 5 := by
  have := h.opn
  unfold depthN
  split <;> omega
theorem depthN_failed {S : Bs} (h : S.failed ≠ 0) : depthN S = 0 := by
  unfold depthN
  rw [if_neg fun q => h q.1]
set_option maxRecDepth 100000 in
theorem few_any (ao : Option Addr) (n cap : Nat) (hn : n ≤ cap) (w : World) : Calls Tryd.prog 9 #[.slice ao n cap] w fun e w' => e = .returned (.slice ao (min n 100) cap) ∧ w' = w := by
  have hi : (n : Int) ≤ (cap : Int) := by omega
  have hi0 : (0 : Int) ≤ (n : Int) := Int.natCast_nonneg _
  by_cases h : (100 : Int) < (n : Int)
  · have hc : (100 : Int) ≤ (cap : Int) := by omega
    have e : min n 100 = 100 := by omega
    rw [e]
    clear e
    go_enter Tryd.func9, Tryd.ntmps9
    go_wp2
    go_ret
    exact ⟨by simp; omega, rfl⟩
  · have e : min n 100 = n := by omega
    rw [e]
    clear e
    go_enter Tryd.func9, Tryd.ntmps9
    go_wp2
    go_ret
    exact ⟨by simp; omega, rfl⟩
set_option maxHeartbeats 4000000 in
set_option maxRecDepth 100000 in
theorem stuck_walk (ao : Option Addr) (cap : Nat) (ts : List Tok) (w : World) (hT : Tabs w) (hcap : ts.length ≤ cap) (hA : ArgToks w ao ts) (htk : ∀ t ∈ ts, t.text.length ≤ 2000000 ∧ t.attrs.length ≤ 2000000) :
    Calls Tryd.prog 5 #[.slice ao ts.length cap] w fun e w' => e = .returned (.bool true) ∧ Below w.heap.size w w' := by
  have H0 := livesT_any w hT
  obtain ⟨us, hus⟩ : ∃ us, ts.take 100 = us := ⟨_, rfl⟩
  have hul : us.length = min ts.length 100 := by rw [← hus, List.length_take, Nat.min_comm]
  have hul' : us.length ≤ 100 := by omega
  have HA : Hid (ArgToks w ao us) := by rw [← hus]; exact hA.take 100
  have HTK : Hid (∀ t ∈ us, t.text.length ≤ 2000000 ∧ t.attrs.length ≤ 2000000) := fun t ht => htk t (by rw [← hus] at ht; exact List.mem_of_mem_take ht)
  have HF : ∀ W, Calls Tryd.prog 9 #[.slice ao ts.length cap] W fun e w' => e = .returned (.slice ao us.length cap) ∧ w' = W := fun W => by rw [hul]; exact few_any ao ts.length cap hcap W
  clear htk hA hus hul
  go_enter Tryd.func5, Tryd.ntmps5
  go_wp2_with (first | (go_at_call 8; refine H0.mono ?_; rintro e w1 ⟨rfl, hb1⟩) | (go_at_call 9; refine (HF _).mono ?_; rintro e w' ⟨rfl, hw⟩; rw [hw]) | (go_at_call 10; refine (newB_any _).mono ?_; rintro e w' ⟨rfl, hw⟩; rw [hw]))
  have hbld : At w1.heap.size #[.int .i64 0, .string ⟨#[]⟩, .slice none 0 0, .int .i64 0, .int .i64 0] 59 (w1.alloc (.cells #[.int .i64 0, .string ⟨#[]⟩, .slice none 0 0, .int .i64 0, .int .i64 0] 59)) := heap_alloc_new _ _
  have hK3 : BAt w.heap.size w1.heap.size [w1.heap.size] bs0 (w1.alloc (.cells #[.int .i64 0, .string ⟨#[]⟩, .slice none 0 0, .int .i64 0, .int .i64 0] 59)) := bat_none hb1.size rfl hbld
  have hB3 : Below w.heap.size w (w1.alloc (.cells #[.int .i64 0, .string ⟨#[]⟩, .slice none 0 0, .int .i64 0, .int .i64 0] 59)) := hb1.alloc hb1.size _
  have hbB : w.heap.size ≤ w1.heap.size := hb1.size
  have hbw := lt_of_heap hbld
  generalize w1.alloc (.cells #[.int .i64 0, .string ⟨#[]⟩, .slice none 0 0, .int .i64 0, .int .i64 0] 59) = w3 at *
  generalize w1.heap.size = b at *
  have HB3 : Hid (Below _ _ _) := hB3
  have HK3 : Hid (BAt _ _ _ _ _) := hK3
  clear H0 HF hbld hK3 hB3 hb1 hT
  go_loopw [5, 6] (fun v i wr => ∃ (j : Nat) (S : Bs) (F : List Nat), j ≤ us.length ∧ i = .int .i64 j ∧ v = .int .i64 S.failed ∧ BOk2 S ∧ textsLe S (j * 2000000) ∧ BAt w.heap.size b F S wr ∧ Wr [b] w3 wr ∧ ∀ k ∈ F, k = b ∨ w3.heap.size ≤ k) (fun _ i _ => us.length - (intOf i).toNat)
  case atStart => exact ⟨0, bs0, [b], Nat.zero_le _, rfl, rfl, bok20, by simp [textsLe, bs0], HK3.out, Wr.refl _ _, by simp⟩
  case round =>
    obtain ⟨j, S, F, hj, rfl, rfl, hok, htx, hB, hW, hFn⟩ := hrel
    have hwz := hW.size
    have hB3z := HB3.out.size
    by_cases hlt : j < us.length
    · obtain ⟨t, ht⟩ : ∃ t, us[j]? = some t := ⟨_, List.getElem?_eq_getElem hlt⟩
      have htt := HTK.out t (List.mem_of_getElem? ht)
      obtain ⟨g, off, va, rfl, hg, k0, k1, k2, k3, hrow0⟩ := HA.out j t ht
      have hsame : ∀ k, k < w.heap.size → wr.heap[k]? = w.heap[k]? := fun k hk => (hW.block k (by omega) (by simp; omega)).trans (HB3.out.block k hk)
      have hcell : ∀ o, wr.cell? ⟨g, o, none⟩ = w.cell? ⟨g, o, none⟩ := fun o => World.cell?_of_block (w := w) (hsame g hg)
      have hrow : Row (fun k => k ∉ F) wr va t.attrs.length (pairCells t.attrs) := hrow0.step fun k hk _ => ⟨fun hf => by rcases hFn k hf with h | h <;> omega, hsame k hk⟩
      obtain ⟨aoa, capa, rfl, _⟩ := hrow0
      rw [← hcell] at k0 k1 k2 k3
      have hgr : g < wr.heap.size := by omega
      have HT11 : ∀ W, Below wr.heap.size wr W → Calls Tryd.prog 11 #[.pointer (some ⟨b, 0, none⟩), .agg #[.int .i64 t.kind, .string ⟨t.nm.toArray⟩, .slice aoa t.attrs.length capa, .string ⟨t.text.toArray⟩]] W (TakeRes w.heap.size b F (takeN S t) W) := fun W hb => takeB_any (hB.below hb) hok.1 t aoa capa htt.1 (hrow.step (row_below hb)) (by omega) (fun e he => by have := htx e he; omega)
      have hok2 := takeN_ok S t hok
      have htx2 := takeN_text S t _ htx
      have hfa := takeN_failed S t
      have hno := takeN_none S t
      have hst := takeN_stuck S t
      obtain ⟨⟨S', o, f⟩, hTk⟩ : ∃ q, takeN S t = q := ⟨_, rfl⟩
      rw [hTk] at HT11 hok2 htx2 hfa hno hst
      have hi0 : (0 : Int) ≤ (j : Int) := Int.natCast_nonneg _
      have hi1 : (j : Int) < (us.length : Int) := by omega
      have hYd : ∀ o, Below wr.heap.size wr (wr.alloc o).drew := fun o => ((Below.refl _ _).alloc (Nat.le_refl _) o).drew
      have hFl : wr.heap.size ∉ F := fun h => by have := (hB.lt _ h).2; omega
      have HOK2 : Hid (BOk2 S') := hok2
      have HTX2 : Hid (textsLe _ _) := htx2
      have HFN : Hid _ := hFn
      have HW : Hid (Wr _ _ _) := hW
      have HFA : Hid _ := hfa
      have HNO : Hid _ := hno
      have HST : Hid _ := hst
      clear hok2 htx2 hFn hW hfa hno hst hrow hsame hcell hTk ht htx hok hB
      go_wp2_with fail
      go_region
      go_wp2_with (go_at_call 11; refine (HT11 _ (hYd _)).mono ?_)
      rintro e w' ⟨F', kk, s1, ao1, n1, cap1, s2, ao2, n2, cap2, ok, rfl, e2, e3, e4, e5⟩
      have hYat : At wr.heap.size #[.int .i64 t.kind, .string ⟨t.nm.toArray⟩, .slice aoa t.attrs.length capa, .string ⟨t.text.toArray⟩] 39 (wr.alloc (.cells #[.int .i64 t.kind, .string ⟨t.nm.toArray⟩, .slice aoa t.attrs.length capa, .string ⟨t.text.toArray⟩] 39)).drew := heap_alloc_new wr _
      have hAt : w'.heap[wr.heap.size]? = some (.cells #[.int .i64 t.kind, .string ⟨t.nm.toArray⟩, .slice aoa t.attrs.length capa, .string ⟨t.text.toArray⟩] 39) := (e4.block wr.heap.size (lt_of_heap hYat) hFl).trans hYat
      have hl' := lt_of_heap hAt
      have c0 : w'.cell? ⟨wr.heap.size, 0, none⟩ = some (.int .i64 t.kind) := by simp [World.cell?, hAt]
      have c1 : w'.cell? ⟨wr.heap.size, 1, none⟩ = some (.string ⟨t.nm.toArray⟩) := by simp [World.cell?, hAt]
      have c2 : w'.cell? ⟨wr.heap.size, 2, none⟩ = some (.slice aoa t.attrs.length capa) := by simp [World.cell?, hAt]
      have c3 : w'.cell? ⟨wr.heap.size, 3, none⟩ = some (.string ⟨t.text.toArray⟩) := by simp [World.cell?, hAt]
      have HN := fun W => take_nil W t.kind ⟨t.nm.toArray⟩ ⟨t.text.toArray⟩ aoa t.attrs.length capa
      have W' : Hid (Wr [b] w3 w') := wr_cat (HW.out.alloc _).drew e4 fun x hx => by rcases HFN.out x hx with h | h; (exact .inl (by simp [h])); exact .inr h
      have FN' : Hid (∀ k ∈ F', k = b ∨ w3.heap.size ≤ k) := fun k hk => by
        rcases e5 k hk with h | h
        · exact HFN.out k h
        · simp at h
          exact .inr (by omega)
      have E3 : Hid (BAt _ _ _ _ _) := e3
      have TX : Hid (textsLe S' ((j + 1) * 2000000)) := fun e he => by have := HTX2.out e he; omega
      have al : ∀ ob, Below w'.heap.size w' (w'.alloc ob) := fun ob => (Below.refl _ _).alloc (Nat.le_refl _) ob
      clear HT11 hYd hYat hAt e3 e4 e5 k0 k1 k2 k3 HTX2 HW HFN
      by_cases hf : f = 0
      · have hs : S.failed = 0 := Classical.byContradiction fun hs => hs ((HST.out hs).symm.trans hf)
        subst hf
        rw [hs]
        go_wp2_with (go_at_call 11; refine (HN _).mono ?_; rintro e w2 ⟨rfl, hb2⟩)
        go_roundw
        case rel =>
          refine ⟨j + 1, S', F', by omega, by go_num, by rw [HFA.out], HOK2.out, TX.out, ?_, ?_, FN'.out⟩
          · exact ((BAt.below E3.out (al _)).below hb2).below ((Below.refl _ _).alloc (Nat.le_refl _) _)
          · exact ((W'.out.alloc _).then_ (hb2.mono (by have := W'.out.size; simp; omega))).alloc _
        case measure => simp [intOf]; omega
      · have ho : o = none := HNO.out hf
        subst ho
        obtain ⟨rfl, o1, o2, o3, o4, rfl⟩ := e2
        cases o1
        cases o2
        cases o3
        cases o4
        have hf' : (f != 0) = true := by simpa using hf
        by_cases hs : S.failed = 0
        · rw [hs]
          go_wp2_with (go_at_call 11; refine (HN _).mono ?_; rintro e w2 ⟨rfl, hb2⟩)
          go_roundw
          case rel =>
            refine ⟨j + 1, S', F', by omega, by go_num, by rw [HFA.out], HOK2.out, TX.out, ?_, ?_, FN'.out⟩
            · exact ((BAt.below E3.out (al _)).below hb2).below ((Below.refl _ _).alloc (Nat.le_refl _) _)
            · exact ((W'.out.alloc _).then_ (hb2.mono (by have := W'.out.size; simp; omega))).alloc _
          case measure => simp [intOf]; omega
        · have hsf : f = S.failed := HST.out hs
          subst hsf
          go_wp2_with (go_at_call 11; refine (HN _).mono ?_; rintro e w2 ⟨rfl, hb2⟩)
          go_roundw
          case rel =>
            refine ⟨j + 1, S', F', by omega, by go_num, by rw [HFA.out], HOK2.out, TX.out, ?_, ?_, FN'.out⟩
            · exact ((BAt.below E3.out (al _)).below hb2).below ((Below.refl _ _).alloc (Nat.le_refl _) _)
            · exact ((W'.out.alloc _).then_ (hb2.mono (by have := W'.out.size; simp; omega))).alloc _
          case measure => simp [intOf]; omega
    · have hjn : j = us.length := by omega
      have hD := depth_any w.heap.size b F S wr hB hok.1.opn
      have hd := (depthN_le hok.1).2
      have hbel : Below w.heap.size w wr := HB3.out.trans (hW.below (by omega) (by simp; omega))
      have HBE : Hid _ := hbel
      have hnl : ¬ (j : Int) < (us.length : Int) := by omega
      by_cases hs : S.failed = 0
      · rw [hs]
        clear hB hok hW hFn htx hbel hjn
        go_wp2_with fail
        refine (depth_nil _).mono ?_
        rintro e w'' ⟨rfl, hw⟩
        rw [hw]
        go_wp2_with (go_at_call 14; refine hD.mono ?_; rintro e w'' ⟨rfl, hw⟩; rw [hw])
        go_ret
        exact ⟨rfl, HBE.out⟩
      · have hz := depthN_failed hs
        rw [hz] at hD
        have hs' : (S.failed == 0) = false := by simpa using hs
        clear hB hok hW hFn htx hbel hjn hz hd
        go_wp2_with fail
        refine (depth_nil _).mono ?_
        rintro e w'' ⟨rfl, hw⟩
        rw [hw]
        go_wp2_with (go_at_call 14; refine hD.mono ?_; rintro e w'' ⟨rfl, hw⟩; rw [hw])
        go_ret
        exact ⟨rfl, HBE.out⟩
end Go.Proofs.YthekdgnikkjpdaaDoor
