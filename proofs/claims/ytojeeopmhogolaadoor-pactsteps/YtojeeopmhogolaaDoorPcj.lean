/-
  The contracts of Act, Name and the document's Name over this program.
-/
import Derived.Test.YtojeeopmhogolaaDoorPcc
namespace Go.Proofs.YtojeeopmhogolaaDoor
open Go Go.RowKit Go.Sort
theorem bytes_neq2 {a b : List UInt8} (h : (a == b) = false) : (((⟨a.toArray⟩ : ByteArray).toList == (⟨b.toArray⟩ : ByteArray).toList) = false) ∧ ¬ (⟨a.toArray⟩ : ByteArray).toList = (⟨b.toArray⟩ : ByteArray).toList := by
  have e : ∀ l : List UInt8, (⟨l.toArray⟩ : ByteArray).toList = l := fun l => by rw [ByteArray.toList_eq]
  rw [e, e]
  exact ⟨h, by simpa using h⟩
/-- What the variable names holds. -/
def Names (w : World) : Prop := w.cell? ⟨0, 0, none⟩ = some (.string ⟨#[]⟩) ∧ w.cell? ⟨0, 1, none⟩ = some (.string ⟨#[115, 117, 98, 115, 99, 114, 105, 98, 101]⟩) ∧ w.cell? ⟨0, 2, none⟩ = some (.string ⟨#[115, 117, 98, 115, 99, 114, 105, 98, 101, 100]⟩) ∧ w.cell? ⟨0, 3, none⟩ = some (.string ⟨#[117, 110, 115, 117, 98, 115, 99, 114, 105, 98, 101]⟩) ∧ w.cell? ⟨0, 4, none⟩ = some (.string ⟨#[117, 110, 115, 117, 98, 115, 99, 114, 105, 98, 101, 100]⟩)
theorem Names.below {w w' : World} (h : Names w) (hb : Below w.heap.size w w') : Names w' := by
  obtain ⟨h0, h1, h2, h3, h4⟩ := h
  have hl := World.block_lt_of_cell? w _ h0
  have hc : ∀ i, w'.cell? ⟨0, i, none⟩ = w.cell? ⟨0, i, none⟩ := fun i => hb.cell hl
  exact ⟨(hc 0).trans h0, (hc 1).trans h1, (hc 2).trans h2, (hc 3).trans h3, (hc 4).trans h4⟩
/-- The act of a text; none's is 0. -/
def actN (t : List UInt8) : Nat := if ([] : List UInt8) == t then 0 else if ([115, 117, 98, 115, 99, 114, 105, 98, 101] : List UInt8) == t then 1 else if ([115, 117, 98, 115, 99, 114, 105, 98, 101, 100] : List UInt8) == t then 2 else if ([117, 110, 115, 117, 98, 115, 99, 114, 105, 98, 101] : List UInt8) == t then 3 else if ([117, 110, 115, 117, 98, 115, 99, 114, 105, 98, 101, 100] : List UInt8) == t then 4 else 0
theorem index58_0 (a b c d e : Value) (W : World) : (Instr.index 58 (.agg #[a, b, c, d, e]) (.int .i64 0)).run Tryd.prog W = .ok a W := by kernel_rfl
theorem index58_1 (a b c d e : Value) (W : World) : (Instr.index 58 (.agg #[a, b, c, d, e]) (.int .i64 1)).run Tryd.prog W = .ok b W := by kernel_rfl
theorem index58_2 (a b c d e : Value) (W : World) : (Instr.index 58 (.agg #[a, b, c, d, e]) (.int .i64 2)).run Tryd.prog W = .ok c W := by kernel_rfl
theorem index58_3 (a b c d e : Value) (W : World) : (Instr.index 58 (.agg #[a, b, c, d, e]) (.int .i64 3)).run Tryd.prog W = .ok d W := by kernel_rfl
theorem index58_4 (a b c d e : Value) (W : World) : (Instr.index 58 (.agg #[a, b, c, d, e]) (.int .i64 4)).run Tryd.prog W = .ok e W := by kernel_rfl
set_option maxHeartbeats 2000000 in
set_option maxRecDepth 100000 in
theorem act_any (t : List UInt8) (w : World) (hS : Names w) : Calls Tryd.prog 23 #[.string ⟨t.toArray⟩] w fun e w' => e = .returned (.int .i64 (actN t : Int)) ∧ w' = w := by
  obtain ⟨s0, s1, s2, s3, s4⟩ := hS
  have ix0 := index58_0
  have ix1 := index58_1
  have ix2 := index58_2
  have ix3 := index58_3
  have ix4 := index58_4
  unfold actN
  cases h0 : ([] : List UInt8) == t with
  | true =>
    obtain rfl := eq_of_beq h0
    rw [show (⟨([] : List UInt8).toArray⟩ : ByteArray) = ⟨#[]⟩ from rfl]
    simp only [if_true]
    clear h0
    go_enter Tryd.func23, Tryd.ntmps23
    go_wp2_with fail
    go_loopw [6] (fun i wr => (i = .int .i64 0) ∧ wr = w) (fun i _ => 6 - (intOf i).toNat)
    case atStart => exact ⟨rfl, rfl⟩
    case round =>
      obtain ⟨hi, rfl⟩ := hrel
      subst hi
      · go_wp2_with fail
        go_ret
        exact ⟨rfl, rfl⟩
  | false =>
    obtain ⟨e0, f0⟩ := bytes_neq2 h0
    rw [show (⟨([] : List UInt8).toArray⟩ : ByteArray).toList = [] by decide +kernel] at e0 f0
    cases h1 : ([115, 117, 98, 115, 99, 114, 105, 98, 101] : List UInt8) == t with
    | true =>
      obtain rfl := eq_of_beq h1
      rw [show (⟨([115, 117, 98, 115, 99, 114, 105, 98, 101] : List UInt8).toArray⟩ : ByteArray) = ⟨#[115, 117, 98, 115, 99, 114, 105, 98, 101]⟩ from rfl]
      simp only [if_true, Bool.false_eq_true, if_false]
      clear h0 h1 e0 f0
      go_enter Tryd.func23, Tryd.ntmps23
      go_wp2_with fail
      go_loopw [6] (fun i wr => (i = .int .i64 0 ∨ i = .int .i64 1) ∧ wr = w) (fun i _ => 6 - (intOf i).toNat)
      case atStart => exact ⟨.inl rfl, rfl⟩
      case round =>
        obtain ⟨hi, rfl⟩ := hrel
        rcases hi with rfl | rfl
        · go_wp2_with fail
          go_roundw
          case rel => exact ⟨.inr (rfl), trivial⟩
          case measure => simp [intOf]
        · go_wp2_with fail
          go_ret
          exact ⟨rfl, rfl⟩
    | false =>
      obtain ⟨e1, f1⟩ := bytes_neq2 h1
      rw [show (⟨([115, 117, 98, 115, 99, 114, 105, 98, 101] : List UInt8).toArray⟩ : ByteArray).toList = [115, 117, 98, 115, 99, 114, 105, 98, 101] by decide +kernel] at e1 f1
      cases h2 : ([115, 117, 98, 115, 99, 114, 105, 98, 101, 100] : List UInt8) == t with
      | true =>
        obtain rfl := eq_of_beq h2
        rw [show (⟨([115, 117, 98, 115, 99, 114, 105, 98, 101, 100] : List UInt8).toArray⟩ : ByteArray) = ⟨#[115, 117, 98, 115, 99, 114, 105, 98, 101, 100]⟩ from rfl]
        simp only [if_true, Bool.false_eq_true, if_false]
        clear h0 h1 h2 e0 f0 e1 f1
        go_enter Tryd.func23, Tryd.ntmps23
        go_wp2_with fail
        go_loopw [6] (fun i wr => (i = .int .i64 0 ∨ i = .int .i64 1 ∨ i = .int .i64 2) ∧ wr = w) (fun i _ => 6 - (intOf i).toNat)
        case atStart => exact ⟨.inl rfl, rfl⟩
        case round =>
          obtain ⟨hi, rfl⟩ := hrel
          rcases hi with rfl | rfl | rfl
          · go_wp2_with fail
            go_roundw
            case rel => exact ⟨.inr (.inl rfl), trivial⟩
            case measure => simp [intOf]
          · go_wp2_with fail
            go_roundw
            case rel => exact ⟨.inr (.inr (rfl)), trivial⟩
            case measure => simp [intOf]
          · go_wp2_with fail
            go_ret
            exact ⟨rfl, rfl⟩
      | false =>
        obtain ⟨e2, f2⟩ := bytes_neq2 h2
        rw [show (⟨([115, 117, 98, 115, 99, 114, 105, 98, 101, 100] : List UInt8).toArray⟩ : ByteArray).toList = [115, 117, 98, 115, 99, 114, 105, 98, 101, 100] by decide +kernel] at e2 f2
        cases h3 : ([117, 110, 115, 117, 98, 115, 99, 114, 105, 98, 101] : List UInt8) == t with
        | true =>
          obtain rfl := eq_of_beq h3
          rw [show (⟨([117, 110, 115, 117, 98, 115, 99, 114, 105, 98, 101] : List UInt8).toArray⟩ : ByteArray) = ⟨#[117, 110, 115, 117, 98, 115, 99, 114, 105, 98, 101]⟩ from rfl]
          simp only [if_true, Bool.false_eq_true, if_false]
          clear h0 h1 h2 h3 e0 f0 e1 f1 e2 f2
          go_enter Tryd.func23, Tryd.ntmps23
          go_wp2_with fail
          go_loopw [6] (fun i wr => (i = .int .i64 0 ∨ i = .int .i64 1 ∨ i = .int .i64 2 ∨ i = .int .i64 3) ∧ wr = w) (fun i _ => 6 - (intOf i).toNat)
          case atStart => exact ⟨.inl rfl, rfl⟩
          case round =>
            obtain ⟨hi, rfl⟩ := hrel
            rcases hi with rfl | rfl | rfl | rfl
            · go_wp2_with fail
              go_roundw
              case rel => exact ⟨.inr (.inl rfl), trivial⟩
              case measure => simp [intOf]
            · go_wp2_with fail
              go_roundw
              case rel => exact ⟨.inr (.inr (.inl rfl)), trivial⟩
              case measure => simp [intOf]
            · go_wp2_with fail
              go_roundw
              case rel => exact ⟨.inr (.inr (.inr (rfl))), trivial⟩
              case measure => simp [intOf]
            · go_wp2_with fail
              go_ret
              exact ⟨rfl, rfl⟩
        | false =>
          obtain ⟨e3, f3⟩ := bytes_neq2 h3
          rw [show (⟨([117, 110, 115, 117, 98, 115, 99, 114, 105, 98, 101] : List UInt8).toArray⟩ : ByteArray).toList = [117, 110, 115, 117, 98, 115, 99, 114, 105, 98, 101] by decide +kernel] at e3 f3
          cases h4 : ([117, 110, 115, 117, 98, 115, 99, 114, 105, 98, 101, 100] : List UInt8) == t with
          | true =>
            obtain rfl := eq_of_beq h4
            rw [show (⟨([117, 110, 115, 117, 98, 115, 99, 114, 105, 98, 101, 100] : List UInt8).toArray⟩ : ByteArray) = ⟨#[117, 110, 115, 117, 98, 115, 99, 114, 105, 98, 101, 100]⟩ from rfl]
            simp only [if_true, Bool.false_eq_true, if_false]
            clear h0 h1 h2 h3 h4 e0 f0 e1 f1 e2 f2 e3 f3
            go_enter Tryd.func23, Tryd.ntmps23
            go_wp2_with fail
            go_loopw [6] (fun i wr => (i = .int .i64 0 ∨ i = .int .i64 1 ∨ i = .int .i64 2 ∨ i = .int .i64 3 ∨ i = .int .i64 4) ∧ wr = w) (fun i _ => 6 - (intOf i).toNat)
            case atStart => exact ⟨.inl rfl, rfl⟩
            case round =>
              obtain ⟨hi, rfl⟩ := hrel
              rcases hi with rfl | rfl | rfl | rfl | rfl
              · go_wp2_with fail
                go_roundw
                case rel => exact ⟨.inr (.inl rfl), trivial⟩
                case measure => simp [intOf]
              · go_wp2_with fail
                go_roundw
                case rel => exact ⟨.inr (.inr (.inl rfl)), trivial⟩
                case measure => simp [intOf]
              · go_wp2_with fail
                go_roundw
                case rel => exact ⟨.inr (.inr (.inr (.inl rfl))), trivial⟩
                case measure => simp [intOf]
              · go_wp2_with fail
                go_roundw
                case rel => exact ⟨.inr (.inr (.inr (.inr (rfl)))), trivial⟩
                case measure => simp [intOf]
              · go_wp2_with fail
                go_ret
                exact ⟨rfl, rfl⟩
          | false =>
            obtain ⟨e4, f4⟩ := bytes_neq2 h4
            rw [show (⟨([117, 110, 115, 117, 98, 115, 99, 114, 105, 98, 101, 100] : List UInt8).toArray⟩ : ByteArray).toList = [117, 110, 115, 117, 98, 115, 99, 114, 105, 98, 101, 100] by decide +kernel] at e4 f4
            simp only [Bool.false_eq_true, if_false]
            obtain ⟨T, hT⟩ : ∃ T : ByteArray, (⟨t.toArray⟩ : ByteArray) = T := ⟨_, rfl⟩
            rw [hT] at e0 f0 e1 f1 e2 f2 e3 f3 e4 f4 ⊢
            clear h0 h1 h2 h3 h4 hT
            go_enter Tryd.func23, Tryd.ntmps23
            go_wp2_with fail
            go_loopw [6] (fun i wr => (i = .int .i64 0 ∨ i = .int .i64 1 ∨ i = .int .i64 2 ∨ i = .int .i64 3 ∨ i = .int .i64 4 ∨ i = .int .i64 5) ∧ wr = w) (fun i _ => 6 - (intOf i).toNat)
            case atStart => exact ⟨.inl rfl, rfl⟩
            case round =>
              obtain ⟨hi, rfl⟩ := hrel
              rcases hi with rfl | rfl | rfl | rfl | rfl | rfl
              · go_wp2_with fail
                go_roundw
                case rel => exact ⟨.inr (.inl rfl), trivial⟩
                case measure => simp [intOf]
              · go_wp2_with fail
                go_roundw
                case rel => exact ⟨.inr (.inr (.inl rfl)), trivial⟩
                case measure => simp [intOf]
              · go_wp2_with fail
                go_roundw
                case rel => exact ⟨.inr (.inr (.inr (.inl rfl))), trivial⟩
                case measure => simp [intOf]
              · go_wp2_with fail
                go_roundw
                case rel => exact ⟨.inr (.inr (.inr (.inr (.inl rfl)))), trivial⟩
                case measure => simp [intOf]
              · go_wp2_with fail
                go_roundw
                case rel => exact ⟨.inr (.inr (.inr (.inr (.inr (rfl))))), trivial⟩
                case measure => simp [intOf]
              · go_wp2_with fail
                go_ret
                exact ⟨rfl, rfl⟩
/-- The name of an act. -/
def nameN (k : Int) : ByteArray := if k = 1 then ⟨#[115, 117, 98, 115, 99, 114, 105, 98, 101]⟩ else if k = 2 then ⟨#[115, 117, 98, 115, 99, 114, 105, 98, 101, 100]⟩ else if k = 3 then ⟨#[117, 110, 115, 117, 98, 115, 99, 114, 105, 98, 101]⟩ else if k = 4 then ⟨#[117, 110, 115, 117, 98, 115, 99, 114, 105, 98, 101, 100]⟩ else ⟨#[]⟩
set_option maxRecDepth 100000 in
theorem name_any (k : Int) (w : World) (hS : Names w) : Calls Tryd.prog 24 #[.int .i64 k] w fun e w' => e = .returned (.string (nameN k)) ∧ w' = w := by
  obtain ⟨s0, s1, s2, s3, s4⟩ := hS
  by_cases h1 : k < 0
  · rw [show nameN k = ⟨#[]⟩ by unfold nameN; rw [if_neg (by omega), if_neg (by omega), if_neg (by omega), if_neg (by omega)]]
    go_enter Tryd.func24, Tryd.ntmps24
    go_wp2_with fail
    go_ret
    exact ⟨rfl, rfl⟩
  · by_cases h2 : 5 ≤ k
    · rw [show nameN k = ⟨#[]⟩ by unfold nameN; rw [if_neg (by omega), if_neg (by omega), if_neg (by omega), if_neg (by omega)]]
      go_enter Tryd.func24, Tryd.ntmps24
      go_wp2_with fail
      go_ret
      exact ⟨rfl, rfl⟩
    · have hc : k = 0 ∨ k = 1 ∨ k = 2 ∨ k = 3 ∨ k = 4 := by omega
      clear h1 h2
      rcases hc with rfl | rfl | rfl | rfl | rfl
      · rw [show nameN 0 = ⟨#[]⟩ from rfl]
        go_enter Tryd.func24, Tryd.ntmps24
        go_wp2_with fail
        go_ret
        exact ⟨rfl, rfl⟩
      · rw [show nameN 1 = ⟨#[115, 117, 98, 115, 99, 114, 105, 98, 101]⟩ from rfl]
        go_enter Tryd.func24, Tryd.ntmps24
        go_wp2_with fail
        go_ret
        exact ⟨rfl, rfl⟩
      · rw [show nameN 2 = ⟨#[115, 117, 98, 115, 99, 114, 105, 98, 101, 100]⟩ from rfl]
        go_enter Tryd.func24, Tryd.ntmps24
        go_wp2_with fail
        go_ret
        exact ⟨rfl, rfl⟩
      · rw [show nameN 3 = ⟨#[117, 110, 115, 117, 98, 115, 99, 114, 105, 98, 101]⟩ from rfl]
        go_enter Tryd.func24, Tryd.ntmps24
        go_wp2_with fail
        go_ret
        exact ⟨rfl, rfl⟩
      · rw [show nameN 4 = ⟨#[117, 110, 115, 117, 98, 115, 99, 114, 105, 98, 101, 100]⟩ from rfl]
        go_enter Tryd.func24, Tryd.ntmps24
        go_wp2_with fail
        go_ret
        exact ⟨rfl, rfl⟩
set_option maxRecDepth 100000 in
set_option maxHeartbeats 1000000 in
theorem refName_any (k : Int) (w : World) : Calls Tryd.prog 25 #[.int .i64 k] w fun e w' => e = .returned (.string (nameN k)) ∧ Below w.heap.size w w' := by
  by_cases h1 : k < 1
  · rw [show nameN k = ⟨#[]⟩ by unfold nameN; rw [if_neg (by omega), if_neg (by omega), if_neg (by omega), if_neg (by omega)]]
    go_enter Tryd.func25, Tryd.ntmps25
    go_wp2_with fail
    go_ret
    exact ⟨rfl, Below.refl _ _⟩
  · by_cases h2 : 4 < k
    · rw [show nameN k = ⟨#[]⟩ by unfold nameN; rw [if_neg (by omega), if_neg (by omega), if_neg (by omega), if_neg (by omega)]]
      go_enter Tryd.func25, Tryd.ntmps25
      go_wp2_with fail
      go_ret
      exact ⟨rfl, Below.refl _ _⟩
    · have hc : k = 1 ∨ k = 2 ∨ k = 3 ∨ k = 4 := by omega
      clear h1 h2
      rcases hc with rfl | rfl | rfl | rfl
      · rw [show nameN 1 = ⟨#[115, 117, 98, 115, 99, 114, 105, 98, 101]⟩ from rfl]
        go_enter Tryd.func25, Tryd.ntmps25
        go_wp2_with fail
        go_ret
        exact ⟨rfl, bw0 _ _⟩
      · rw [show nameN 2 = ⟨#[115, 117, 98, 115, 99, 114, 105, 98, 101, 100]⟩ from rfl]
        go_enter Tryd.func25, Tryd.ntmps25
        go_wp2_with fail
        go_ret
        exact ⟨rfl, bw0 _ _⟩
      · rw [show nameN 3 = ⟨#[117, 110, 115, 117, 98, 115, 99, 114, 105, 98, 101]⟩ from rfl]
        go_enter Tryd.func25, Tryd.ntmps25
        go_wp2_with fail
        go_ret
        exact ⟨rfl, bw0 _ _⟩
      · rw [show nameN 4 = ⟨#[117, 110, 115, 117, 98, 115, 99, 114, 105, 98, 101, 100]⟩ from rfl]
        go_enter Tryd.func25, Tryd.ntmps25
        go_wp2_with fail
        go_ret
        exact ⟨rfl, bw0 _ _⟩
end Go.Proofs.YtojeeopmhogolaaDoor
