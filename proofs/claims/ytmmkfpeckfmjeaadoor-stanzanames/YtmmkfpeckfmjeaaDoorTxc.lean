/-
  The contracts of value, number, kidText, isMeant and kindOf over this program.
-/
import Derived.Test.YtmmkfpeckfmjeaaDoorTxb
import Derived.Lib.QuietBelow
namespace Go.Proofs.YtmmkfpeckfmjeaaDoor
open Go Go.RowKit Go.Maps Go.Sort
def valN (l : List (List UInt8 × List UInt8)) (nm : List UInt8) : List UInt8 := (attrN l nm).getD []
theorem ElE.below {P : Nat → Prop} {w w' : World} {x : El} {a b c d : Value} (h : ElE P w x a b c d) (hb : Below w.heap.size w w') : ElE P w' x a b c d := h.step fun k hk hl => ⟨hk, hb.block k hl⟩
/-- Elements within bounds, to a depth. -/
def szE : Nat → El → Prop
  | 0, _ => True
  | n + 1, e => e.attrs.length ≤ 1000000000000 ∧ (∀ p ∈ e.attrs, p.2.length ≤ 35184372088832) ∧ e.text.length ≤ 35184372088832 ∧ e.kids.length ≤ 1000000000000 ∧ ∀ k ∈ e.kids, szE n k
theorem val_len {l : List (List UInt8 × List UInt8)} (h : ∀ p ∈ l, p.2.length ≤ 35184372088832) (nm : List UInt8) : (valN l nm).length ≤ 35184372088832 := by
  unfold valN
  induction l with
  | nil => exact Nat.zero_le _
  | cons p r ih =>
    unfold attrN
    split
    · exact h p (List.mem_cons_self ..)
    · exact ih fun q hq => h q (List.mem_cons_of_mem _ hq)
set_option maxHeartbeats 1000000 in
set_option maxRecDepth 100000 in
theorem value_any {P : Nat → Prop} (x : El) (nm : List UInt8) (a b c d : Value) (w : World) (h1 : ElE P w x a b c d) (hl : x.attrs.length ≤ 1000000000000) :
    Calls Tryd.prog 46 #[.agg #[a, b, c, d], .string ⟨nm.toArray⟩] w fun e w' => e = .returned (.string ⟨(valN x.attrs nm).toArray⟩) ∧ Below w.heap.size w w' := by
  have HA := fun o => attr_any x nm a b c d (w.alloc o) (h1.below (bw0 w o)) hl _ _ rfl rfl
  obtain ⟨ok, hok⟩ : ∃ ok, (attrN x.attrs nm).isSome = ok := ⟨_, rfl⟩
  obtain ⟨v, hv⟩ : ∃ v, atV (attrN x.attrs nm) = v := ⟨_, rfl⟩
  have HV : Hid ((⟨(valN x.attrs nm).toArray⟩ : ByteArray) = v) := hv
  simp only [hok, hv] at HA
  rw [HV.out]
  obtain ⟨ao1, cap1, ao2, cap2, rfl, rfl⟩ := h1.shape
  obtain ⟨rfl, _, rfl, _⟩ := h1.parts
  obtain ⟨s1, hs1⟩ : ∃ s1, (⟨x.nm.toArray⟩ : ByteArray) = s1 := ⟨_, rfl⟩
  obtain ⟨s2, hs2⟩ : ∃ s2, (⟨x.text.toArray⟩ : ByteArray) = s2 := ⟨_, rfl⟩
  obtain ⟨n1, hn1⟩ : ∃ n1, x.attrs.length = n1 := ⟨_, rfl⟩
  obtain ⟨n2, hn2⟩ : ∃ n2, x.kids.length = n2 := ⟨_, rfl⟩
  obtain ⟨N, hN⟩ : ∃ N, (⟨nm.toArray⟩ : ByteArray) = N := ⟨_, rfl⟩
  simp only [hs1, hs2, hn1, hn2, hN] at HA ⊢
  clear h1 hok hv HV hs1 hs2 hn1 hn2 hN hl
  go_enter Tryd.func46, Tryd.ntmps46
  go_wp2_with (go_at_call 61; refine (HA _).mono ?_; rintro e w2 ⟨rfl, hb2⟩; have HB2 : Hid (Below w.heap.size w w2) := (bw0 w _).trans (hb2.mono (by simp)); clear hb2)
  go_ret
  exact ⟨rfl, HB2.out⟩
/-- An attribute's number. -/
def numV (l : List (List UInt8 × List UInt8)) (nm : List UInt8) : Nat := (readN (valN l nm)).getD 0
set_option maxHeartbeats 1000000 in
set_option maxRecDepth 100000 in
theorem number_any {P : Nat → Prop} (x : El) (nm : List UInt8) (a b c d : Value) (w : World) (h1 : ElE P w x a b c d) (hz : szE 1 x) (hV : Va w) :
    Calls Tryd.prog 48 #[.agg #[a, b, c, d], .string ⟨nm.toArray⟩] w fun e w' => e = .returned (.int .u32 (numV x.attrs nm : Int)) ∧ Below w.heap.size w w' := by
  have HA := fun o => value_any x nm a b c d (w.alloc o) (h1.below (bw0 w o)) hz.1
  have hvl := val_len hz.2.1 nm
  obtain ⟨v, hv⟩ : ∃ v : ByteArray, (⟨(valN x.attrs nm).toArray⟩ : ByteArray) = v := ⟨_, rfl⟩
  have hd : v.data.toList = valN x.attrs nm := by rw [← hv]
  have hvs : v.size ≤ 35184372088832 := by rw [size_list, hd]; exact hvl
  simp only [hv] at HA
  unfold numV
  rw [← hd]
  obtain ⟨ao1, cap1, ao2, cap2, rfl, rfl⟩ := h1.shape
  obtain ⟨rfl, _, rfl, _⟩ := h1.parts
  obtain ⟨s1, hs1⟩ : ∃ s1, (⟨x.nm.toArray⟩ : ByteArray) = s1 := ⟨_, rfl⟩
  obtain ⟨s2, hs2⟩ : ∃ s2, (⟨x.text.toArray⟩ : ByteArray) = s2 := ⟨_, rfl⟩
  obtain ⟨n1, hn1⟩ : ∃ n1, x.attrs.length = n1 := ⟨_, rfl⟩
  obtain ⟨n2, hn2⟩ : ∃ n2, x.kids.length = n2 := ⟨_, rfl⟩
  obtain ⟨N, hN⟩ : ∃ N, (⟨nm.toArray⟩ : ByteArray) = N := ⟨_, rfl⟩
  simp only [hs1, hs2, hn1, hn2, hN] at HA ⊢
  have HV : Hid (Va w) := hV
  cases hr : readN v.data.toList with
  | none =>
    have HX := fun W hW => read_none v hr (by omega) W hW
    simp only [Option.getD_none]
    clear h1 hv hd hs1 hs2 hn1 hn2 hN hz hvl hr hV
    go_enter Tryd.func48, Tryd.ntmps48
    go_wp2_with (first
      | (go_at_call 46; refine (HA _).mono ?_; rintro e w2 ⟨rfl, hb2⟩; have HB2 : Hid (Below w.heap.size w w2) := (bw0 w _).trans (hb2.mono (by simp)); clear hb2)
      | (go_at_call 57; refine (HX _ (HV.out.below HB2.out).e).mono ?_; rintro e w3 ⟨rfl, hb3⟩; have HB3 : Hid (Below w.heap.size w w3) := HB2.out.trans (hb3.mono HB2.out.size); clear hb3))
    go_ret
    exact ⟨rfl, HB3.out⟩
  | some u =>
    have HX := fun W hW => read_some v u hr (by omega) W hW
    simp only [Option.getD_some]
    clear h1 hv hd hs1 hs2 hn1 hn2 hN hz hvl hr hV
    go_enter Tryd.func48, Tryd.ntmps48
    go_wp2_with (first
      | (go_at_call 46; refine (HA _).mono ?_; rintro e w2 ⟨rfl, hb2⟩; have HB2 : Hid (Below w.heap.size w w2) := (bw0 w _).trans (hb2.mono (by simp)); clear hb2)
      | (go_at_call 57; refine (HX _ (HV.out.below HB2.out).e).mono ?_; rintro e w3 ⟨rfl, hb3⟩; have HB3 : Hid (Below w.heap.size w w3) := HB2.out.trans (hb3.mono HB2.out.size); clear hb3))
    go_ret
    exact ⟨rfl, HB3.out⟩
theorem Below.same {n : Nat} {w w' w'' : World} (h : Below n w w') (e1 : w''.os = w'.os) (e2 : w''.tape = w'.tape) (e3 : w''.output = w'.output) (e4 : w''.heap = w'.heap) : Below n w w'' :=
  ⟨e1.trans h.os, e2.trans h.tape, e3.trans h.output, by rw [e4]; exact h.size, fun k hk => by rw [e4]; exact h.block k hk⟩
theorem cell_new (w : World) (cs : Array Value) (T i : Nat) (v : Value) (h : cs[i]? = some v) : (w.alloc (.cells cs T)).cell? ⟨w.heap.size, i, none⟩ = some v := by
  show (match (w.heap.push (Obj.cells cs T))[w.heap.size]? with | some (.cells c _ _) => if (none : Option (Option Nat)).isSome then none else c[i]? | _ => none) = some v
  rw [Array.getElem?_push_size]
  exact h
theorem cell_old {w : World} {a : Addr} {v : Value} (o : Obj) (h : w.cell? a = some v) : (w.alloc o).cell? a = some v := ((bw0 w o).cell (block_lt_of_cell h)).trans h
/-- Is an element meant to have this shape? -/
def meantN (s : Nst) (e : El) : Bool := (e.nm == s.nm) && (!(s.nm == [105, 113]) || match s.fds with
  | f :: _ => f.p (valN e.attrs [116, 121, 112, 101])
  | [] => false)
theorem bytes_eq {a b : List UInt8} (h : (a == b) = true) : (⟨a.toArray⟩ : ByteArray) = ⟨b.toArray⟩ := by rw [eq_of_beq h]
set_option maxHeartbeats 2000000 in
set_option maxRecDepth 100000 in
theorem meant_any {P P' : Nat → Prop} (s : Nst) (ao : Option Addr) (n cp F : Nat) (cap : Array Value) (x : El) (a b c d : Value) (w : World) (hF : FRow P' w (.slice ao n cp) s.fds) (h1 : ElE P w x a b c d) (hz : szE 1 x) (hV : Va w) (hq : s.nm = [105, 113] → s.fds ≠ []) :
    Calls Tryd.prog 44 #[.agg #[.string ⟨s.nm.toArray⟩, .slice ao n cp, .func (.func F) #[] cap], .agg #[a, b, c, d]] w fun e w' => e = .returned (.bool (meantN s x)) ∧ Below w.heap.size w w' := by
  have HA := fun W (hb : Below w.heap.size w W) => value_any x [116, 121, 112, 101] a b c d W (h1.below hb) hz.1
  have hvl := val_len hz.2.1 [116, 121, 112, 101]
  obtain ⟨ao1, cap1, ao2, cap2, rfl, rfl⟩ := h1.shape
  obtain ⟨rfl, _, rfl, _⟩ := h1.parts
  have h2b : ∀ o1 o2, Below w.heap.size w ((w.alloc o1).alloc o2) := fun o1 o2 => (bw0 w o1).alloc (by simp) o2
  cases hn : x.nm == s.nm with
  | false =>
    obtain ⟨e1, e2⟩ := bytes_neq2 hn
    unfold meantN
    rw [hn, Bool.false_and]
    obtain ⟨s1, hs1⟩ : ∃ s1, (⟨x.nm.toArray⟩ : ByteArray) = s1 := ⟨_, rfl⟩
    obtain ⟨s0, hs0⟩ : ∃ s1, (⟨s.nm.toArray⟩ : ByteArray) = s1 := ⟨_, rfl⟩
    obtain ⟨s2, hs2⟩ : ∃ s2, (⟨x.text.toArray⟩ : ByteArray) = s2 := ⟨_, rfl⟩
    obtain ⟨n1, hn1⟩ : ∃ n1, x.attrs.length = n1 := ⟨_, rfl⟩
    obtain ⟨n2, hn2⟩ : ∃ n2, x.kids.length = n2 := ⟨_, rfl⟩
    have H2b : Hid _ := h2b
    simp only [hs1, hs2, hn1, hn2, hs0] at e1 e2 ⊢
    clear h1 hF hn hs1 hs0 hs2 hn1 hn2 HA hvl hz hV hq h2b
    go_enter Tryd.func44, Tryd.ntmps44
    go_wp2_with fail
    go_ret
    exact ⟨rfl, H2b.out _ _⟩
  | true =>
    unfold meantN
    rw [hn, Bool.true_and, bytes_eq hn]
    cases hi : s.nm == [105, 113] with
    | false =>
      obtain ⟨e1, e2⟩ := bytes_neq2 hi
      rw [Bool.not_false, Bool.true_or]
      obtain ⟨s0, hs0⟩ : ∃ s1, (⟨s.nm.toArray⟩ : ByteArray) = s1 := ⟨_, rfl⟩
      obtain ⟨s2, hs2⟩ : ∃ s2, (⟨x.text.toArray⟩ : ByteArray) = s2 := ⟨_, rfl⟩
      obtain ⟨n1, hn1⟩ : ∃ n1, x.attrs.length = n1 := ⟨_, rfl⟩
      obtain ⟨n2, hn2⟩ : ∃ n2, x.kids.length = n2 := ⟨_, rfl⟩
      have H2b : Hid _ := h2b
      have hiq : (⟨[105, 113].toArray⟩ : ByteArray).toList = [105, 113] := by decide +kernel
      rw [hiq] at e1 e2
      simp only [hs2, hn1, hn2, hs0] at e1 e2 ⊢
      clear h1 hF hn hs0 hs2 hn1 hn2 HA hvl hz hV hq h2b hi
      go_enter Tryd.func44, Tryd.ntmps44
      go_wp2_with fail
      go_region
      all_goals (go_wp2_with fail)
      go_ret
      refine ⟨rfl, ?_⟩
      have hB : ∀ o1 o2, Below w.heap.size w ((w.alloc o1).alloc o2) := H2b.out
      refine Below.same (w' := (w.alloc (Obj.cells #[.string s0, .slice ao n cp, .func (.func F) #[] cap] 56)).alloc (Obj.cells #[.string s0, .slice ao1 n1 cap1, .string s2, .slice ao2 n2 cap2] 29)) ?_ ?_ ?_ ?_ ?_
      case refine_1 => exact hB (Obj.cells #[.string s0, .slice ao n cp, .func (.func F) #[] cap] 56) (Obj.cells #[.string s0, .slice ao1 n1 cap1, .string s2, .slice ao2 n2 cap2] 29)
      all_goals rfl
    | true =>
      have hs0 := eq_of_beq hi
      rw [Bool.not_true, Bool.false_or]
      obtain ⟨xs, hrow, hfds⟩ := hF
      cases hl : s.fds with
      | nil => exact (hq hs0 hl).elim
      | cons f0 fs =>
        rw [hl] at hrow hfds
        obtain ⟨v, ys, rfl, hT, _⟩ := hfds
        obtain ⟨G, gap, rfl⟩ := hT.shape
        have hn0 : n = (f0 :: fs).length := by
          obtain ⟨_, _, e, _⟩ := hrow
          exact (Value.slice.inj e).2.1
        have HN0 : Hid (n = fs.length + 1) := hn0
        rw [← hn0] at hrow
        obtain ⟨g, off, rfl, hg, hcs⟩ := row_flat hrow
        have k1 := hcs 1 _ rfl
        have hn0 : 0 < n := by
          rw [hn0]
          simp
        have hpl : (0 : Int) < (n : Int) := by omega
        obtain ⟨V, hVv⟩ : ∃ V : ByteArray, (⟨(valN x.attrs [116, 121, 112, 101]).toArray⟩ : ByteArray) = V := ⟨_, rfl⟩
        have HC : Hid (∀ W, Below w.heap.size w W → (∀ args W', (callFunc G args).run Tryd.prog W' = .ok (.enter G args) W') ∧ Calls Tryd.prog G (#[.string V] ++ gap) W fun e w' => e = .returned (.bool (f0.p (valN x.attrs [116, 121, 112, 101]))) ∧ Below W.heap.size W w') := fun W hb => by
          rw [← hVv]
          exact tst_call (hT.step (Stp.below hb)) (hV.below hb) _ hvl
        have hE := (HC.out w (Below.refl _ _)).1
        simp only
        obtain ⟨r, hr⟩ : ∃ r, f0.p (valN x.attrs [116, 121, 112, 101]) = r := ⟨_, rfl⟩
        rw [hr] at HC ⊢
        rw [hs0]
        simp only [hVv] at HA
        obtain ⟨s2, hs2⟩ : ∃ s2, (⟨x.text.toArray⟩ : ByteArray) = s2 := ⟨_, rfl⟩
        obtain ⟨n1, hn1⟩ : ∃ n1, x.attrs.length = n1 := ⟨_, rfl⟩
        obtain ⟨n2, hn2⟩ : ∃ n2, x.kids.length = n2 := ⟨_, rfl⟩
        rw [bytes_eq hn, hs0] at HA
        simp only [hs2, hn1, hn2] at HA ⊢
        have K1 : Hid (w.cell? ⟨g, off + 1, none⟩ = some (.func (.func G) #[] gap)) := k1
        have HG : Hid (g < w.heap.size) := hg
        have HA : Hid _ := HA
        have H2b : Hid _ := h2b
        have HE : Hid _ := hE
        clear h1 hn hs2 hn1 hn2 hvl hz hV hq hi hs0 hrow hcs hT hVv hr hl h2b hg k1 hE
        go_enter Tryd.func44, Tryd.ntmps44
        go_wp2_with fail
        generalize hO1 : Obj.cells #[.string ⟨#[105, 113]⟩, .slice (some ⟨g, off, none⟩) _ cp, .func (.func F) #[] cap] 56 = o1
        generalize hO2 : Obj.cells #[.string ⟨#[105, 113]⟩, .slice ao1 n1 cap1, .string s2, .slice ao2 n2 cap2] 29 = o2
        have hB := H2b.out o1 o2
        have d0 : ((w.alloc o1).alloc o2).cell? ⟨w.heap.size, 0, none⟩ = some (.string ⟨#[105, 113]⟩) := by rw [← hO1]; exact cell_old _ (cell_new w _ _ 0 _ rfl)
        have d1 : ((w.alloc o1).alloc o2).cell? ⟨w.heap.size, 1, none⟩ = some (.slice (some ⟨g, off, none⟩) n cp) := by rw [← hO1]; exact cell_old _ (cell_new w _ _ 1 _ (by first | rfl | (rw [HN0.out]; rfl)))
        have hsz : (w.alloc o1).heap.size = w.heap.size + 1 := by simp
        have p0 : ((w.alloc o1).alloc o2).cell? ⟨w.heap.size + 1, 0, none⟩ = some (.string ⟨#[105, 113]⟩) := by rw [← hO2, ← hsz]; exact cell_new _ _ _ 0 _ rfl
        have p1 : ((w.alloc o1).alloc o2).cell? ⟨w.heap.size + 1, 1, none⟩ = some (.slice ao1 n1 cap1) := by rw [← hO2, ← hsz]; exact cell_new _ _ _ 1 _ rfl
        have p2 : ((w.alloc o1).alloc o2).cell? ⟨w.heap.size + 1, 2, none⟩ = some (.string s2) := by rw [← hO2, ← hsz]; exact cell_new _ _ _ 2 _ rfl
        have p3 : ((w.alloc o1).alloc o2).cell? ⟨w.heap.size + 1, 3, none⟩ = some (.slice ao2 n2 cap2) := by rw [← hO2, ← hsz]; exact cell_new _ _ _ 3 _ rfl
        have k1 := (hB.cell (p := ⟨g, off + 1, none⟩) HG.out).trans K1.out
        have c46 : ∀ W, Below w.heap.size w W → Calls Tryd.prog 46 #[.agg #[.string ⟨#[105, 113]⟩, .slice ao1 n1 cap1, .string s2, .slice ao2 n2 cap2], .string ⟨#[116, 121, 112, 101]⟩] W fun e w' => e = .returned (.string V) ∧ Below W.heap.size W w' := HA.out
        obtain ⟨W, hW⟩ : ∃ W, (w.alloc o1).alloc o2 = W := ⟨_, rfl⟩
        have hws : w.heap.size ≤ W.heap.size := by rw [← hW]; simp; omega
        rw [hW] at d0 d1 p0 p1 p2 p3 k1 hB ⊢
        have d46 : ∀ d os, Calls Tryd.prog 46 #[.agg #[.string ⟨#[105, 113]⟩, .slice ao1 n1 cap1, .string s2, .slice ao2 n2 cap2], .string ⟨#[116, 121, 112, 101]⟩] (grow (redrawn W d) os) fun e w'' => e = .returned (.string V) ∧ ∃ p : Regrown, w'' = grow (redrawn W p.d) p.os := fun d os => Calls.regrown_of (c46 _ (hB.trans ((below_regrown W d os).mono hws)))
        have dG : ∀ d os, Calls Tryd.prog G (#[.string V] ++ gap) (grow (redrawn W d) os) fun e w'' => e = .returned (.bool r) ∧ ∃ p : Regrown, w'' = grow (redrawn W p.d) p.os := fun d os => Calls.regrown_of (HC.out _ (hB.trans ((below_regrown W d os).mono hws))).2
        have e0 := cell_regrown d0
        have e1 := cell_regrown d1
        have f0 := cell_regrown p0
        have f1 := cell_regrown p1
        have f2 := cell_regrown p2
        have f3 := cell_regrown p3
        have l1 := cell_regrown k1
        have HBB : Hid _ := hB
        have hE := HE.out
        clear d0 d1 p0 p1 p2 p3 k1 hB c46 HA HC HE HG K1 H2b hW hO1 hO2 hsz
        refine wp_region_quiet_below (by kernel_rfl) (by kernel_rfl) ?_
        repeat (quiet_step (first | (go_at_call 46; exact d46 _ _) | exact dG _ _))
        refine wpQuiet_nil ?_
        intro _ hw'
        obtain ⟨⟨dq, osq⟩, hw''⟩ := hw'
        subst hw''
        have HB2 : Hid (Below w.heap.size w (grow (redrawn W dq) osq)) := HBB.out.trans ((below_regrown W dq osq).mono hws)
        obtain ⟨W2, hW2⟩ : ∃ W2, grow (redrawn W dq) osq = W2 := ⟨_, rfl⟩
        rw [hW2] at HB2 ⊢
        clear hW2 d46 dG e0 e1 f0 f1 f2 f3 l1 hE HBB hws hpl hn0
        go_wp2_with fail
        go_ret
        exact ⟨rfl, HB2.out⟩
end Go.Proofs.YtmmkfpeckfmjeaaDoor
