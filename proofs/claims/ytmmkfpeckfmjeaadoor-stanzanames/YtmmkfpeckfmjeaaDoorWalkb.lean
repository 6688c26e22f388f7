/-
  The contract of unicode/utf8.FullRuneInString over this program: for every string that is not empty it tells whether the string begins with a sign or with bytes that no more bytes could make one.
-/
import Derived.Test.YtmmkfpeckfmjeaaDoorWalka
namespace Go.Proofs.YtmmkfpeckfmjeaaDoor
open Go.RowKit
def fullN (sz lo hi n b1 b2 : Nat) : Bool := decide (sz ≤ n) || (decide (1 < n) && (decide (b1 < lo) || decide (hi < b1))) || (decide (2 < n) && (decide (b2 < 128) || decide (191 < b2)))
set_option maxHeartbeats 400000 in
set_option maxRecDepth 100000 in
theorem full_long (s : ByteArray) (w : World) (h0 : 0 < s.size) (x : Nat) (hx256 : (x : Int) < 256) (hx : w.cell? ⟨3, (s[0]'h0).toNat, none⟩ = some (.int .u8 (x : Nat))) (hn : (x : Int) % 8 ≤ (s.size : Int)) :
    Calls Tryd.prog 83 #[.string s] w fun e w' => e = .returned (.bool true) ∧ Below w.heap.size w w' := by
  have hb0 : ((s[0]'h0).toNat : Int) < 256 := by have := (s[0]'h0).toNat_lt; omega
  go_enter Tryd.func83, Tryd.ntmps83
  go_wp2
  go_ret
  exact ⟨rfl, Below.refl _ _⟩
set_option maxHeartbeats 400000 in
set_option maxRecDepth 100000 in
theorem full_1 (s : ByteArray) (w : World) (h0 : 0 < s.size) (x : Nat) (hx256 : (x : Int) < 256) (hx : w.cell? ⟨3, (s[0]'h0).toNat, none⟩ = some (.int .u8 (x : Nat))) (hn : s.size = 1) (hn2 : (1 : Int) < (x : Int) % 8) (lo hi : Int) (hlo : w.cell? ⟨4, x / 16 * 2, none⟩ = some (.int .u8 lo)) (hhi : w.cell? ⟨4, x / 16 * 2 + 1, none⟩ = some (.int .u8 hi)) :
    Calls Tryd.prog 83 #[.string s] w fun e w' => e = .returned (.bool false) ∧ Below w.heap.size w w' := by
  have hb0 : ((s[0]'h0).toNat : Int) < 256 := by have := (s[0]'h0).toNat_lt; omega
  go_enter Tryd.func83, Tryd.ntmps83
  go_wp2
  go_quiet (fail)
  go_wp2
  go_ret
  exact ⟨rfl, below_drewN (((Below.refl _ w).alloc (Nat.le_refl _) _)) _⟩
set_option maxHeartbeats 400000 in
set_option maxRecDepth 100000 in
theorem full_2_lo (s : ByteArray) (w : World) (h0 : 0 < s.size) (x : Nat) (hx256 : (x : Int) < 256) (hx : w.cell? ⟨3, (s[0]'h0).toNat, none⟩ = some (.int .u8 (x : Nat))) (lo hi : Int) (hlo : w.cell? ⟨4, x / 16 * 2, none⟩ = some (.int .u8 lo)) (hhi : w.cell? ⟨4, x / 16 * 2 + 1, none⟩ = some (.int .u8 hi)) (hn : s.size = 2) (hn2 : (2 : Int) < (x : Int) % 8) (h1 : 1 < s.size) (hb1 : ((s[1]'h1).toNat : Int) < lo) :
    Calls Tryd.prog 83 #[.string s] w fun e w' => e = .returned (.bool true) ∧ Below w.heap.size w w' := by
  have hb0 : ((s[0]'h0).toNat : Int) < 256 := by have := (s[0]'h0).toNat_lt; omega
  go_enter Tryd.func83, Tryd.ntmps83
  go_wp2
  go_quiet (fail)
  go_wp2
  go_ret
  exact ⟨rfl, below_drewN (((Below.refl _ w).alloc (Nat.le_refl _) _)) _⟩
set_option maxHeartbeats 400000 in
set_option maxRecDepth 100000 in
theorem full_2_hi (s : ByteArray) (w : World) (h0 : 0 < s.size) (x : Nat) (hx256 : (x : Int) < 256) (hx : w.cell? ⟨3, (s[0]'h0).toNat, none⟩ = some (.int .u8 (x : Nat))) (lo hi : Int) (hlo : w.cell? ⟨4, x / 16 * 2, none⟩ = some (.int .u8 lo)) (hhi : w.cell? ⟨4, x / 16 * 2 + 1, none⟩ = some (.int .u8 hi)) (hn : s.size = 2) (hn2 : (2 : Int) < (x : Int) % 8) (h1 : 1 < s.size) (hb1 : lo ≤ ((s[1]'h1).toNat : Int)) (hb1' : hi < ((s[1]'h1).toNat : Int)) :
    Calls Tryd.prog 83 #[.string s] w fun e w' => e = .returned (.bool true) ∧ Below w.heap.size w w' := by
  have hb0 : ((s[0]'h0).toNat : Int) < 256 := by have := (s[0]'h0).toNat_lt; omega
  have d1 : decide (((s[1]'h1).toNat : Int) < lo) = false := decide_eq_false (by omega)
  go_enter Tryd.func83, Tryd.ntmps83
  go_wp2
  go_quiet (fail)
  go_wp2
  go_ret
  exact ⟨rfl, below_drewN (((Below.refl _ w).alloc (Nat.le_refl _) _)) _⟩
set_option maxHeartbeats 400000 in
set_option maxRecDepth 100000 in
theorem full_2_in (s : ByteArray) (w : World) (h0 : 0 < s.size) (x : Nat) (hx256 : (x : Int) < 256) (hx : w.cell? ⟨3, (s[0]'h0).toNat, none⟩ = some (.int .u8 (x : Nat))) (lo hi : Int) (hlo : w.cell? ⟨4, x / 16 * 2, none⟩ = some (.int .u8 lo)) (hhi : w.cell? ⟨4, x / 16 * 2 + 1, none⟩ = some (.int .u8 hi)) (hn : s.size = 2) (hn2 : (2 : Int) < (x : Int) % 8) (h1 : 1 < s.size) (hb1 : lo ≤ ((s[1]'h1).toNat : Int)) (hb1' : ((s[1]'h1).toNat : Int) ≤ hi) :
    Calls Tryd.prog 83 #[.string s] w fun e w' => e = .returned (.bool false) ∧ Below w.heap.size w w' := by
  have hb0 : ((s[0]'h0).toNat : Int) < 256 := by have := (s[0]'h0).toNat_lt; omega
  have d1 : decide (((s[1]'h1).toNat : Int) < lo) = false := decide_eq_false (by omega)
  have d2 : decide (hi < ((s[1]'h1).toNat : Int)) = false := decide_eq_false (by omega)
  go_enter Tryd.func83, Tryd.ntmps83
  go_wp2
  go_quiet (fail)
  go_wp2
  go_ret
  exact ⟨rfl, below_drewN (((Below.refl _ w).alloc (Nat.le_refl _) _)) _⟩
set_option maxHeartbeats 400000 in
set_option maxRecDepth 100000 in
theorem full_3_lo (s : ByteArray) (w : World) (h0 : 0 < s.size) (x : Nat) (hx256 : (x : Int) < 256) (hx : w.cell? ⟨3, (s[0]'h0).toNat, none⟩ = some (.int .u8 (x : Nat))) (lo hi : Int) (hlo : w.cell? ⟨4, x / 16 * 2, none⟩ = some (.int .u8 lo)) (hhi : w.cell? ⟨4, x / 16 * 2 + 1, none⟩ = some (.int .u8 hi)) (hn : s.size = 3) (hn2 : (3 : Int) < (x : Int) % 8) (h1 : 1 < s.size) (hb1 : ((s[1]'h1).toNat : Int) < lo) :
    Calls Tryd.prog 83 #[.string s] w fun e w' => e = .returned (.bool true) ∧ Below w.heap.size w w' := by
  have hb0 : ((s[0]'h0).toNat : Int) < 256 := by have := (s[0]'h0).toNat_lt; omega
  go_enter Tryd.func83, Tryd.ntmps83
  go_wp2
  go_quiet (fail)
  go_wp2
  go_ret
  exact ⟨rfl, below_drewN (((Below.refl _ w).alloc (Nat.le_refl _) _)) _⟩
set_option maxHeartbeats 400000 in
set_option maxRecDepth 100000 in
theorem full_3_hi (s : ByteArray) (w : World) (h0 : 0 < s.size) (x : Nat) (hx256 : (x : Int) < 256) (hx : w.cell? ⟨3, (s[0]'h0).toNat, none⟩ = some (.int .u8 (x : Nat))) (lo hi : Int) (hlo : w.cell? ⟨4, x / 16 * 2, none⟩ = some (.int .u8 lo)) (hhi : w.cell? ⟨4, x / 16 * 2 + 1, none⟩ = some (.int .u8 hi)) (hn : s.size = 3) (hn2 : (3 : Int) < (x : Int) % 8) (h1 : 1 < s.size) (hb1 : lo ≤ ((s[1]'h1).toNat : Int)) (hb1' : hi < ((s[1]'h1).toNat : Int)) :
    Calls Tryd.prog 83 #[.string s] w fun e w' => e = .returned (.bool true) ∧ Below w.heap.size w w' := by
  have hb0 : ((s[0]'h0).toNat : Int) < 256 := by have := (s[0]'h0).toNat_lt; omega
  have d1 : decide (((s[1]'h1).toNat : Int) < lo) = false := decide_eq_false (by omega)
  go_enter Tryd.func83, Tryd.ntmps83
  go_wp2
  go_quiet (fail)
  go_wp2
  go_ret
  exact ⟨rfl, below_drewN (((Below.refl _ w).alloc (Nat.le_refl _) _)) _⟩
set_option maxHeartbeats 400000 in
set_option maxRecDepth 100000 in
theorem full_3_lo2 (s : ByteArray) (w : World) (h0 : 0 < s.size) (x : Nat) (hx256 : (x : Int) < 256) (hx : w.cell? ⟨3, (s[0]'h0).toNat, none⟩ = some (.int .u8 (x : Nat))) (lo hi : Int) (hlo : w.cell? ⟨4, x / 16 * 2, none⟩ = some (.int .u8 lo)) (hhi : w.cell? ⟨4, x / 16 * 2 + 1, none⟩ = some (.int .u8 hi)) (hn : s.size = 3) (hn2 : (3 : Int) < (x : Int) % 8) (h1 : 1 < s.size) (hb1 : lo ≤ ((s[1]'h1).toNat : Int)) (hb1' : ((s[1]'h1).toNat : Int) ≤ hi) (h2 : 2 < s.size) (hb2 : ((s[2]'h2).toNat : Int) < 128) :
    Calls Tryd.prog 83 #[.string s] w fun e w' => e = .returned (.bool true) ∧ Below w.heap.size w w' := by
  have hb0 : ((s[0]'h0).toNat : Int) < 256 := by have := (s[0]'h0).toNat_lt; omega
  have d1 : decide (((s[1]'h1).toNat : Int) < lo) = false := decide_eq_false (by omega)
  have d2 : decide (hi < ((s[1]'h1).toNat : Int)) = false := decide_eq_false (by omega)
  go_enter Tryd.func83, Tryd.ntmps83
  go_wp2
  go_quiet (fail)
  go_wp2
  go_ret
  exact ⟨rfl, below_drewN (((Below.refl _ w).alloc (Nat.le_refl _) _)) _⟩
set_option maxHeartbeats 400000 in
set_option maxRecDepth 100000 in
theorem full_3_hi2 (s : ByteArray) (w : World) (h0 : 0 < s.size) (x : Nat) (hx256 : (x : Int) < 256) (hx : w.cell? ⟨3, (s[0]'h0).toNat, none⟩ = some (.int .u8 (x : Nat))) (lo hi : Int) (hlo : w.cell? ⟨4, x / 16 * 2, none⟩ = some (.int .u8 lo)) (hhi : w.cell? ⟨4, x / 16 * 2 + 1, none⟩ = some (.int .u8 hi)) (hn : s.size = 3) (hn2 : (3 : Int) < (x : Int) % 8) (h1 : 1 < s.size) (hb1 : lo ≤ ((s[1]'h1).toNat : Int)) (hb1' : ((s[1]'h1).toNat : Int) ≤ hi) (h2 : 2 < s.size) (hb2 : (128 : Int) ≤ ((s[2]'h2).toNat : Int)) (hb2' : (191 : Int) < ((s[2]'h2).toNat : Int)) :
    Calls Tryd.prog 83 #[.string s] w fun e w' => e = .returned (.bool true) ∧ Below w.heap.size w w' := by
  have hb0 : ((s[0]'h0).toNat : Int) < 256 := by have := (s[0]'h0).toNat_lt; omega
  have d1 : decide (((s[1]'h1).toNat : Int) < lo) = false := decide_eq_false (by omega)
  have d2 : decide (hi < ((s[1]'h1).toNat : Int)) = false := decide_eq_false (by omega)
  go_enter Tryd.func83, Tryd.ntmps83
  go_wp2
  go_quiet (fail)
  go_wp2
  go_ret
  exact ⟨rfl, below_drewN (((Below.refl _ w).alloc (Nat.le_refl _) _)) _⟩
set_option maxHeartbeats 400000 in
set_option maxRecDepth 100000 in
theorem full_3_in2 (s : ByteArray) (w : World) (h0 : 0 < s.size) (x : Nat) (hx256 : (x : Int) < 256) (hx : w.cell? ⟨3, (s[0]'h0).toNat, none⟩ = some (.int .u8 (x : Nat))) (lo hi : Int) (hlo : w.cell? ⟨4, x / 16 * 2, none⟩ = some (.int .u8 lo)) (hhi : w.cell? ⟨4, x / 16 * 2 + 1, none⟩ = some (.int .u8 hi)) (hn : s.size = 3) (hn2 : (3 : Int) < (x : Int) % 8) (h1 : 1 < s.size) (hb1 : lo ≤ ((s[1]'h1).toNat : Int)) (hb1' : ((s[1]'h1).toNat : Int) ≤ hi) (h2 : 2 < s.size) (hb2 : (128 : Int) ≤ ((s[2]'h2).toNat : Int)) (hb2' : ((s[2]'h2).toNat : Int) ≤ 191) :
    Calls Tryd.prog 83 #[.string s] w fun e w' => e = .returned (.bool false) ∧ Below w.heap.size w w' := by
  have hb0 : ((s[0]'h0).toNat : Int) < 256 := by have := (s[0]'h0).toNat_lt; omega
  have d1 : decide (((s[1]'h1).toNat : Int) < lo) = false := decide_eq_false (by omega)
  have d2 : decide (hi < ((s[1]'h1).toNat : Int)) = false := decide_eq_false (by omega)
  go_enter Tryd.func83, Tryd.ntmps83
  go_wp2
  go_quiet (fail)
  go_wp2
  go_ret
  exact ⟨rfl, below_drewN (((Below.refl _ w).alloc (Nat.le_refl _) _)) _⟩
end Go.Proofs.YtmmkfpeckfmjeaaDoor
