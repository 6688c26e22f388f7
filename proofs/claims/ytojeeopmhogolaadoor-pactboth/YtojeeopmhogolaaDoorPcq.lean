/-
  The statement PactSteps, at every side and every act; what a side of any number says.
-/
import Derived.Test.YtojeeopmhogolaaDoorPcp
namespace Go.Proofs.YtojeeopmhogolaaDoor
open Go Go.RowKit Go.Sort
/-- What the calls say of a side. -/
structure Reads (x : Int) (a b p q ok : Bool) : Prop where
  h14 : ∀ W, Calls Tryd.prog 14 #[.agg #[.int .i64 x, .bool a, .bool b]] W fun e w' => e = .returned (.bool p) ∧ Below W.heap.size W w'
  h15 : ∀ W, Calls Tryd.prog 15 #[.agg #[.int .i64 x, .bool a, .bool b]] W fun e w' => e = .returned (.bool q) ∧ Below W.heap.size W w'
  h13 : ∀ W, Calls Tryd.prog 13 #[.agg #[.int .i64 x, .bool a, .bool b]] W fun e w' => e = .returned (.bool ok) ∧ Below W.heap.size W w'
  h10 : ∀ W, Calls Tryd.prog 10 #[.int .i64 x, .bool a, .bool b] W fun e w' => e = .returned (.tuple #[.agg #[.bool p, .bool q, .bool a, .bool b], .bool ok]) ∧ Below W.heap.size W w'
  is : (ok = true ∧ x = subN p q ∧ okN p q a b = true) ∨ (ok = false ∧ Off x a b)
theorem reads_any (x : Int) (a b : Bool) : ∃ p q ok, Reads x a b p q ok := by
  rcases side_cases x with ⟨p, q, rfl⟩ | h
  · refine ⟨p, q, okN p q a b, sees_any p q a b, seen_any p q a b, right_any p q a b, of_any p q a b, ?_⟩
    cases hok : okN p q a b
    · exact .inr ⟨rfl, .inr ⟨p, q, rfl, hok⟩⟩
    · exact .inl ⟨rfl, rfl, rfl⟩
  · exact ⟨false, false, false, fun W => sees_off x a b W h.2.1 h.2.2.2, fun W => seen_off x a b W h.2.2.1 h.2.2.2, right_no x a b (.inl h), fun W => of_off x a b W h, .inr ⟨rfl, .inl h⟩⟩
theorem steps_walk (x : Int) (a b : Bool) (act : Int) (w : World) (hN : Names w) : Calls Tryd.prog 3 #[.agg #[.int .i64 x, .bool a, .bool b], .int .i64 act] w fun e w' => e = .returned (.bool true) ∧ Below w.heap.size w w' := by
  obtain ⟨p, q, ok, R⟩ := reads_any x a b
  rcases R.is with ⟨rfl, rfl, hok⟩ | ⟨rfl, hoff⟩
  · rcases act_cases act with ⟨k, rfl, hk⟩ | hno
    · have H17 := refHear_any k hk ⟨p, q, a, b⟩
      rw [heR_eq k ⟨p, q, a, b⟩ hok] at H17
      exact steps_ok (subN p q) k (doS k ⟨p, q, a, b⟩).sub (heS k ⟨p, q, a, b⟩).sub p q a b (doS k ⟨p, q, a, b⟩).a (doS k ⟨p, q, a, b⟩).b (doT k ⟨p, q, a, b⟩) (heS k ⟨p, q, a, b⟩).a (heS k ⟨p, q, a, b⟩).b (heT k ⟨p, q, a, b⟩) (heE k ⟨p, q, a, b⟩) (doS k ⟨p, q, a, b⟩).p (doS k ⟨p, q, a, b⟩).q (doS k ⟨p, q, a, b⟩).a (doS k ⟨p, q, a, b⟩).b (heS k ⟨p, q, a, b⟩).p (heS k ⟨p, q, a, b⟩).q (heS k ⟨p, q, a, b⟩).a (heS k ⟨p, q, a, b⟩).b w hN R.h10
        (do_any k hk ⟨p, q, a, b⟩ hok) (hear_any k hk ⟨p, q, a, b⟩ hok) R.h13 R.h14 R.h15 (refDo_any k hk ⟨p, q, a, b⟩) H17 (side_any _) (side_any _)
    · exact steps_none (subN p q) act p q a b _ _ _ _ _ _ _ _ _ _ _ _ w hN R.h10 (do_no _ _ _ _ (.inr hno)) (hear_no _ _ _ _ (.inr hno)) R.h13 R.h14 R.h15 (refDo_no p q a b act hno) (refHear_no p q a b act hno)
  · rcases act_cases act with ⟨k, rfl, hk⟩ | hno
    · exact steps_bad x k p q a b _ _ _ _ _ _ _ _ _ _ _ _ _ w hN R.h10 (do_no _ _ _ _ (.inl hoff)) (hear_no _ _ _ _ (.inl hoff)) R.h13 R.h14 R.h15 (refDo_any k hk ⟨p, q, a, b⟩) (refHear_any k hk ⟨p, q, a, b⟩)
    · exact steps_bad x act p q a b _ _ _ _ _ _ _ _ _ _ _ _ _ w hN R.h10 (do_no _ _ _ _ (.inl hoff)) (hear_no _ _ _ _ (.inl hoff)) R.h13 R.h14 R.h15 (refDo_no p q a b act hno) (refHear_no p q a b act hno)
end Go.Proofs.YtojeeopmhogolaaDoor
