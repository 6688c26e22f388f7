/-
  The contract of unicode/utf8.FullRuneInString over this program: for every string, it tells whether the string begins with a sign or with bytes that no more bytes could make one.
-/
import Derived.Test.YtjhiebpehpaapaaDoorWalka
namespace Go.Proofs.YtjhiebpehpaapaaDoor
open Go.RowKit
def fullN (sz lo hi n b1 b2 : Nat) : Bool := decide (sz ≤ n) || (decide (1 < n) && (decide (b1 < lo) || decide (hi < b1))) || (decide (2 < n) && (decide (b2 < 128) || decide (191 < b2)))
set_option maxHeartbeats 400000 in
set_option maxRecDepth 100000 in
theorem full_240 (s : ByteArray) (w : World) (h0 : 0 < s.size) (hx : w.cell? ⟨0, (s[0]'h0).toNat, none⟩ = some (.int .u8 240)) :
    Calls Tryd.prog 22 #[.string s] w fun e w' => e = .returned (.bool true) ∧ Below w.heap.size w w' := by
  have hb0 : ((s[0]'h0).toNat : Int) < 256 := by have := (s[0]'h0).toNat_lt; omega
  go_enter Tryd.func22, Tryd.ntmps22
  go_wp2
  go_ret
  exact ⟨rfl, Below.refl _ _⟩
set_option maxHeartbeats 400000 in
set_option maxRecDepth 100000 in
theorem full_241 (s : ByteArray) (w : World) (h0 : 0 < s.size) (hx : w.cell? ⟨0, (s[0]'h0).toNat, none⟩ = some (.int .u8 241)) :
    Calls Tryd.prog 22 #[.string s] w fun e w' => e = .returned (.bool true) ∧ Below w.heap.size w w' := by
  have hb0 : ((s[0]'h0).toNat : Int) < 256 := by have := (s[0]'h0).toNat_lt; omega
  go_enter Tryd.func22, Tryd.ntmps22
  go_wp2
  go_ret
  exact ⟨rfl, Below.refl _ _⟩
set_option maxHeartbeats 400000 in
set_option maxRecDepth 100000 in
theorem full_2_long (s : ByteArray) (w : World) (h0 : 0 < s.size) (hx : w.cell? ⟨0, (s[0]'h0).toNat, none⟩ = some (.int .u8 2)) (hn : (2 : Int) ≤ (s.size : Int)) :
    Calls Tryd.prog 22 #[.string s] w fun e w' => e = .returned (.bool true) ∧ Below w.heap.size w w' := by
  have hb0 : ((s[0]'h0).toNat : Int) < 256 := by have := (s[0]'h0).toNat_lt; omega
  go_enter Tryd.func22, Tryd.ntmps22
  go_wp2
  go_ret
  exact ⟨rfl, Below.refl _ _⟩
set_option maxHeartbeats 400000 in
set_option maxRecDepth 100000 in
theorem full_2_1 (s : ByteArray) (w : World) (h0 : 0 < s.size) (hx : w.cell? ⟨0, (s[0]'h0).toNat, none⟩ = some (.int .u8 2)) (hn : s.size = 1) (hlo : w.cell? ⟨1, 0, none⟩ = some (.int .u8 128)) (hhi : w.cell? ⟨1, 1, none⟩ = some (.int .u8 191)) :
    Calls Tryd.prog 22 #[.string s] w fun e w' => e = .returned (.bool false) ∧ Below w.heap.size w w' := by
  have hb0 : ((s[0]'h0).toNat : Int) < 256 := by have := (s[0]'h0).toNat_lt; omega
  go_enter Tryd.func22, Tryd.ntmps22
  go_wp2
  go_quiet (fail)
  go_wp2
  go_ret
  exact ⟨rfl, below_drewN (((Below.refl _ w).alloc (Nat.le_refl _) _)) _⟩
set_option maxHeartbeats 400000 in
set_option maxRecDepth 100000 in
theorem full_19_long (s : ByteArray) (w : World) (h0 : 0 < s.size) (hx : w.cell? ⟨0, (s[0]'h0).toNat, none⟩ = some (.int .u8 19)) (hn : (3 : Int) ≤ (s.size : Int)) :
    Calls Tryd.prog 22 #[.string s] w fun e w' => e = .returned (.bool true) ∧ Below w.heap.size w w' := by
  have hb0 : ((s[0]'h0).toNat : Int) < 256 := by have := (s[0]'h0).toNat_lt; omega
  go_enter Tryd.func22, Tryd.ntmps22
  go_wp2
  go_ret
  exact ⟨rfl, Below.refl _ _⟩
set_option maxHeartbeats 400000 in
set_option maxRecDepth 100000 in
theorem full_19_1 (s : ByteArray) (w : World) (h0 : 0 < s.size) (hx : w.cell? ⟨0, (s[0]'h0).toNat, none⟩ = some (.int .u8 19)) (hn : s.size = 1) (hlo : w.cell? ⟨1, 2, none⟩ = some (.int .u8 160)) (hhi : w.cell? ⟨1, 3, none⟩ = some (.int .u8 191)) :
    Calls Tryd.prog 22 #[.string s] w fun e w' => e = .returned (.bool false) ∧ Below w.heap.size w w' := by
  have hb0 : ((s[0]'h0).toNat : Int) < 256 := by have := (s[0]'h0).toNat_lt; omega
  go_enter Tryd.func22, Tryd.ntmps22
  go_wp2
  go_quiet (fail)
  go_wp2
  go_ret
  exact ⟨rfl, below_drewN (((Below.refl _ w).alloc (Nat.le_refl _) _)) _⟩
set_option maxHeartbeats 400000 in
set_option maxRecDepth 100000 in
theorem full_19_2_lo (s : ByteArray) (w : World) (h0 : 0 < s.size) (hx : w.cell? ⟨0, (s[0]'h0).toNat, none⟩ = some (.int .u8 19)) (hn : s.size = 2) (h1 : 1 < s.size) (hb1 : ((s[1]'h1).toNat : Int) < 160) (hlo : w.cell? ⟨1, 2, none⟩ = some (.int .u8 160)) (hhi : w.cell? ⟨1, 3, none⟩ = some (.int .u8 191)) :
    Calls Tryd.prog 22 #[.string s] w fun e w' => e = .returned (.bool true) ∧ Below w.heap.size w w' := by
  have hb0 : ((s[0]'h0).toNat : Int) < 256 := by have := (s[0]'h0).toNat_lt; omega
  go_enter Tryd.func22, Tryd.ntmps22
  go_wp2
  go_quiet (fail)
  go_wp2
  go_ret
  exact ⟨rfl, below_drewN (((Below.refl _ w).alloc (Nat.le_refl _) _)) _⟩
set_option maxHeartbeats 400000 in
set_option maxRecDepth 100000 in
theorem full_19_2_hi (s : ByteArray) (w : World) (h0 : 0 < s.size) (hx : w.cell? ⟨0, (s[0]'h0).toNat, none⟩ = some (.int .u8 19)) (hn : s.size = 2) (h1 : 1 < s.size) (hb1 : (160 : Int) ≤ ((s[1]'h1).toNat : Int)) (hb1' : (191 : Int) < ((s[1]'h1).toNat : Int)) (hlo : w.cell? ⟨1, 2, none⟩ = some (.int .u8 160)) (hhi : w.cell? ⟨1, 3, none⟩ = some (.int .u8 191)) :
    Calls Tryd.prog 22 #[.string s] w fun e w' => e = .returned (.bool true) ∧ Below w.heap.size w w' := by
  have hb0 : ((s[0]'h0).toNat : Int) < 256 := by have := (s[0]'h0).toNat_lt; omega
  go_enter Tryd.func22, Tryd.ntmps22
  go_wp2
  go_quiet (fail)
  go_wp2
  go_ret
  exact ⟨rfl, below_drewN (((Below.refl _ w).alloc (Nat.le_refl _) _)) _⟩
set_option maxHeartbeats 400000 in
set_option maxRecDepth 100000 in
theorem full_19_2_in (s : ByteArray) (w : World) (h0 : 0 < s.size) (hx : w.cell? ⟨0, (s[0]'h0).toNat, none⟩ = some (.int .u8 19)) (hn : s.size = 2) (h1 : 1 < s.size) (hb1 : (160 : Int) ≤ ((s[1]'h1).toNat : Int)) (hb1' : ((s[1]'h1).toNat : Int) ≤ 191) (hlo : w.cell? ⟨1, 2, none⟩ = some (.int .u8 160)) (hhi : w.cell? ⟨1, 3, none⟩ = some (.int .u8 191)) :
    Calls Tryd.prog 22 #[.string s] w fun e w' => e = .returned (.bool false) ∧ Below w.heap.size w w' := by
  have hb0 : ((s[0]'h0).toNat : Int) < 256 := by have := (s[0]'h0).toNat_lt; omega
  go_enter Tryd.func22, Tryd.ntmps22
  go_wp2
  go_quiet (fail)
  go_wp2
  go_ret
  exact ⟨rfl, below_drewN (((Below.refl _ w).alloc (Nat.le_refl _) _)) _⟩
set_option maxHeartbeats 400000 in
set_option maxRecDepth 100000 in
theorem full_3_long (s : ByteArray) (w : World) (h0 : 0 < s.size) (hx : w.cell? ⟨0, (s[0]'h0).toNat, none⟩ = some (.int .u8 3)) (hn : (3 : Int) ≤ (s.size : Int)) :
    Calls Tryd.prog 22 #[.string s] w fun e w' => e = .returned (.bool true) ∧ Below w.heap.size w w' := by
  have hb0 : ((s[0]'h0).toNat : Int) < 256 := by have := (s[0]'h0).toNat_lt; omega
  go_enter Tryd.func22, Tryd.ntmps22
  go_wp2
  go_ret
  exact ⟨rfl, Below.refl _ _⟩
set_option maxHeartbeats 400000 in
set_option maxRecDepth 100000 in
theorem full_3_1 (s : ByteArray) (w : World) (h0 : 0 < s.size) (hx : w.cell? ⟨0, (s[0]'h0).toNat, none⟩ = some (.int .u8 3)) (hn : s.size = 1) (hlo : w.cell? ⟨1, 0, none⟩ = some (.int .u8 128)) (hhi : w.cell? ⟨1, 1, none⟩ = some (.int .u8 191)) :
    Calls Tryd.prog 22 #[.string s] w fun e w' => e = .returned (.bool false) ∧ Below w.heap.size w w' := by
  have hb0 : ((s[0]'h0).toNat : Int) < 256 := by have := (s[0]'h0).toNat_lt; omega
  go_enter Tryd.func22, Tryd.ntmps22
  go_wp2
  go_quiet (fail)
  go_wp2
  go_ret
  exact ⟨rfl, below_drewN (((Below.refl _ w).alloc (Nat.le_refl _) _)) _⟩
set_option maxHeartbeats 400000 in
set_option maxRecDepth 100000 in
theorem full_3_2_lo (s : ByteArray) (w : World) (h0 : 0 < s.size) (hx : w.cell? ⟨0, (s[0]'h0).toNat, none⟩ = some (.int .u8 3)) (hn : s.size = 2) (h1 : 1 < s.size) (hb1 : ((s[1]'h1).toNat : Int) < 128) (hlo : w.cell? ⟨1, 0, none⟩ = some (.int .u8 128)) (hhi : w.cell? ⟨1, 1, none⟩ = some (.int .u8 191)) :
    Calls Tryd.prog 22 #[.string s] w fun e w' => e = .returned (.bool true) ∧ Below w.heap.size w w' := by
  have hb0 : ((s[0]'h0).toNat : Int) < 256 := by have := (s[0]'h0).toNat_lt; omega
  go_enter Tryd.func22, Tryd.ntmps22
  go_wp2
  go_quiet (fail)
  go_wp2
  go_ret
  exact ⟨rfl, below_drewN (((Below.refl _ w).alloc (Nat.le_refl _) _)) _⟩
set_option maxHeartbeats 400000 in
set_option maxRecDepth 100000 in
theorem full_3_2_hi (s : ByteArray) (w : World) (h0 : 0 < s.size) (hx : w.cell? ⟨0, (s[0]'h0).toNat, none⟩ = some (.int .u8 3)) (hn : s.size = 2) (h1 : 1 < s.size) (hb1 : (128 : Int) ≤ ((s[1]'h1).toNat : Int)) (hb1' : (191 : Int) < ((s[1]'h1).toNat : Int)) (hlo : w.cell? ⟨1, 0, none⟩ = some (.int .u8 128)) (hhi : w.cell? ⟨1, 1, none⟩ = some (.int .u8 191)) :
    Calls Tryd.prog 22 #[.string s] w fun e w' => e = .returned (.bool true) ∧ Below w.heap.size w w' := by
  have hb0 : ((s[0]'h0).toNat : Int) < 256 := by have := (s[0]'h0).toNat_lt; omega
  go_enter Tryd.func22, Tryd.ntmps22
  go_wp2
  go_quiet (fail)
  go_wp2
  go_ret
  exact ⟨rfl, below_drewN (((Below.refl _ w).alloc (Nat.le_refl _) _)) _⟩
set_option maxHeartbeats 400000 in
set_option maxRecDepth 100000 in
theorem full_3_2_in (s : ByteArray) (w : World) (h0 : 0 < s.size) (hx : w.cell? ⟨0, (s[0]'h0).toNat, none⟩ = some (.int .u8 3)) (hn : s.size = 2) (h1 : 1 < s.size) (hb1 : (128 : Int) ≤ ((s[1]'h1).toNat : Int)) (hb1' : ((s[1]'h1).toNat : Int) ≤ 191) (hlo : w.cell? ⟨1, 0, none⟩ = some (.int .u8 128)) (hhi : w.cell? ⟨1, 1, none⟩ = some (.int .u8 191)) :
    Calls Tryd.prog 22 #[.string s] w fun e w' => e = .returned (.bool false) ∧ Below w.heap.size w w' := by
  have hb0 : ((s[0]'h0).toNat : Int) < 256 := by have := (s[0]'h0).toNat_lt; omega
  go_enter Tryd.func22, Tryd.ntmps22
  go_wp2
  go_quiet (fail)
  go_wp2
  go_ret
  exact ⟨rfl, below_drewN (((Below.refl _ w).alloc (Nat.le_refl _) _)) _⟩
set_option maxHeartbeats 400000 in
set_option maxRecDepth 100000 in
theorem full_35_long (s : ByteArray) (w : World) (h0 : 0 < s.size) (hx : w.cell? ⟨0, (s[0]'h0).toNat, none⟩ = some (.int .u8 35)) (hn : (3 : Int) ≤ (s.size : Int)) :
    Calls Tryd.prog 22 #[.string s] w fun e w' => e = .returned (.bool true) ∧ Below w.heap.size w w' := by
  have hb0 : ((s[0]'h0).toNat : Int) < 256 := by have := (s[0]'h0).toNat_lt; omega
  go_enter Tryd.func22, Tryd.ntmps22
  go_wp2
  go_ret
  exact ⟨rfl, Below.refl _ _⟩
set_option maxHeartbeats 400000 in
set_option maxRecDepth 100000 in
theorem full_35_1 (s : ByteArray) (w : World) (h0 : 0 < s.size) (hx : w.cell? ⟨0, (s[0]'h0).toNat, none⟩ = some (.int .u8 35)) (hn : s.size = 1) (hlo : w.cell? ⟨1, 4, none⟩ = some (.int .u8 128)) (hhi : w.cell? ⟨1, 5, none⟩ = some (.int .u8 159)) :
    Calls Tryd.prog 22 #[.string s] w fun e w' => e = .returned (.bool false) ∧ Below w.heap.size w w' := by
  have hb0 : ((s[0]'h0).toNat : Int) < 256 := by have := (s[0]'h0).toNat_lt; omega
  go_enter Tryd.func22, Tryd.ntmps22
  go_wp2
  go_quiet (fail)
  go_wp2
  go_ret
  exact ⟨rfl, below_drewN (((Below.refl _ w).alloc (Nat.le_refl _) _)) _⟩
set_option maxHeartbeats 400000 in
set_option maxRecDepth 100000 in
theorem full_35_2_lo (s : ByteArray) (w : World) (h0 : 0 < s.size) (hx : w.cell? ⟨0, (s[0]'h0).toNat, none⟩ = some (.int .u8 35)) (hn : s.size = 2) (h1 : 1 < s.size) (hb1 : ((s[1]'h1).toNat : Int) < 128) (hlo : w.cell? ⟨1, 4, none⟩ = some (.int .u8 128)) (hhi : w.cell? ⟨1, 5, none⟩ = some (.int .u8 159)) :
    Calls Tryd.prog 22 #[.string s] w fun e w' => e = .returned (.bool true) ∧ Below w.heap.size w w' := by
  have hb0 : ((s[0]'h0).toNat : Int) < 256 := by have := (s[0]'h0).toNat_lt; omega
  go_enter Tryd.func22, Tryd.ntmps22
  go_wp2
  go_quiet (fail)
  go_wp2
  go_ret
  exact ⟨rfl, below_drewN (((Below.refl _ w).alloc (Nat.le_refl _) _)) _⟩
set_option maxHeartbeats 400000 in
set_option maxRecDepth 100000 in
theorem full_35_2_hi (s : ByteArray) (w : World) (h0 : 0 < s.size) (hx : w.cell? ⟨0, (s[0]'h0).toNat, none⟩ = some (.int .u8 35)) (hn : s.size = 2) (h1 : 1 < s.size) (hb1 : (128 : Int) ≤ ((s[1]'h1).toNat : Int)) (hb1' : (159 : Int) < ((s[1]'h1).toNat : Int)) (hlo : w.cell? ⟨1, 4, none⟩ = some (.int .u8 128)) (hhi : w.cell? ⟨1, 5, none⟩ = some (.int .u8 159)) :
    Calls Tryd.prog 22 #[.string s] w fun e w' => e = .returned (.bool true) ∧ Below w.heap.size w w' := by
  have hb0 : ((s[0]'h0).toNat : Int) < 256 := by have := (s[0]'h0).toNat_lt; omega
  go_enter Tryd.func22, Tryd.ntmps22
  go_wp2
  go_quiet (fail)
  go_wp2
  go_ret
  exact ⟨rfl, below_drewN (((Below.refl _ w).alloc (Nat.le_refl _) _)) _⟩
set_option maxHeartbeats 400000 in
set_option maxRecDepth 100000 in
theorem full_35_2_in (s : ByteArray) (w : World) (h0 : 0 < s.size) (hx : w.cell? ⟨0, (s[0]'h0).toNat, none⟩ = some (.int .u8 35)) (hn : s.size = 2) (h1 : 1 < s.size) (hb1 : (128 : Int) ≤ ((s[1]'h1).toNat : Int)) (hb1' : ((s[1]'h1).toNat : Int) ≤ 159) (hlo : w.cell? ⟨1, 4, none⟩ = some (.int .u8 128)) (hhi : w.cell? ⟨1, 5, none⟩ = some (.int .u8 159)) :
    Calls Tryd.prog 22 #[.string s] w fun e w' => e = .returned (.bool false) ∧ Below w.heap.size w w' := by
  have hb0 : ((s[0]'h0).toNat : Int) < 256 := by have := (s[0]'h0).toNat_lt; omega
  go_enter Tryd.func22, Tryd.ntmps22
  go_wp2
  go_quiet (fail)
  go_wp2
  go_ret
  exact ⟨rfl, below_drewN (((Below.refl _ w).alloc (Nat.le_refl _) _)) _⟩
set_option maxHeartbeats 400000 in
set_option maxRecDepth 100000 in
theorem full_52_long (s : ByteArray) (w : World) (h0 : 0 < s.size) (hx : w.cell? ⟨0, (s[0]'h0).toNat, none⟩ = some (.int .u8 52)) (hn : (4 : Int) ≤ (s.size : Int)) :
    Calls Tryd.prog 22 #[.string s] w fun e w' => e = .returned (.bool true) ∧ Below w.heap.size w w' := by
  have hb0 : ((s[0]'h0).toNat : Int) < 256 := by have := (s[0]'h0).toNat_lt; omega
  go_enter Tryd.func22, Tryd.ntmps22
  go_wp2
  go_ret
  exact ⟨rfl, Below.refl _ _⟩
set_option maxHeartbeats 400000 in
set_option maxRecDepth 100000 in
theorem full_52_1 (s : ByteArray) (w : World) (h0 : 0 < s.size) (hx : w.cell? ⟨0, (s[0]'h0).toNat, none⟩ = some (.int .u8 52)) (hn : s.size = 1) (hlo : w.cell? ⟨1, 6, none⟩ = some (.int .u8 144)) (hhi : w.cell? ⟨1, 7, none⟩ = some (.int .u8 191)) :
    Calls Tryd.prog 22 #[.string s] w fun e w' => e = .returned (.bool false) ∧ Below w.heap.size w w' := by
  have hb0 : ((s[0]'h0).toNat : Int) < 256 := by have := (s[0]'h0).toNat_lt; omega
  go_enter Tryd.func22, Tryd.ntmps22
  go_wp2
  go_quiet (fail)
  go_wp2
  go_ret
  exact ⟨rfl, below_drewN (((Below.refl _ w).alloc (Nat.le_refl _) _)) _⟩
set_option maxHeartbeats 400000 in
set_option maxRecDepth 100000 in
theorem full_52_2_lo (s : ByteArray) (w : World) (h0 : 0 < s.size) (hx : w.cell? ⟨0, (s[0]'h0).toNat, none⟩ = some (.int .u8 52)) (hn : s.size = 2) (h1 : 1 < s.size) (hb1 : ((s[1]'h1).toNat : Int) < 144) (hlo : w.cell? ⟨1, 6, none⟩ = some (.int .u8 144)) (hhi : w.cell? ⟨1, 7, none⟩ = some (.int .u8 191)) :
    Calls Tryd.prog 22 #[.string s] w fun e w' => e = .returned (.bool true) ∧ Below w.heap.size w w' := by
  have hb0 : ((s[0]'h0).toNat : Int) < 256 := by have := (s[0]'h0).toNat_lt; omega
  go_enter Tryd.func22, Tryd.ntmps22
  go_wp2
  go_quiet (fail)
  go_wp2
  go_ret
  exact ⟨rfl, below_drewN (((Below.refl _ w).alloc (Nat.le_refl _) _)) _⟩
set_option maxHeartbeats 400000 in
set_option maxRecDepth 100000 in
theorem full_52_2_hi (s : ByteArray) (w : World) (h0 : 0 < s.size) (hx : w.cell? ⟨0, (s[0]'h0).toNat, none⟩ = some (.int .u8 52)) (hn : s.size = 2) (h1 : 1 < s.size) (hb1 : (144 : Int) ≤ ((s[1]'h1).toNat : Int)) (hb1' : (191 : Int) < ((s[1]'h1).toNat : Int)) (hlo : w.cell? ⟨1, 6, none⟩ = some (.int .u8 144)) (hhi : w.cell? ⟨1, 7, none⟩ = some (.int .u8 191)) :
    Calls Tryd.prog 22 #[.string s] w fun e w' => e = .returned (.bool true) ∧ Below w.heap.size w w' := by
  have hb0 : ((s[0]'h0).toNat : Int) < 256 := by have := (s[0]'h0).toNat_lt; omega
  go_enter Tryd.func22, Tryd.ntmps22
  go_wp2
  go_quiet (fail)
  go_wp2
  go_ret
  exact ⟨rfl, below_drewN (((Below.refl _ w).alloc (Nat.le_refl _) _)) _⟩
set_option maxHeartbeats 400000 in
set_option maxRecDepth 100000 in
theorem full_52_2_in (s : ByteArray) (w : World) (h0 : 0 < s.size) (hx : w.cell? ⟨0, (s[0]'h0).toNat, none⟩ = some (.int .u8 52)) (hn : s.size = 2) (h1 : 1 < s.size) (hb1 : (144 : Int) ≤ ((s[1]'h1).toNat : Int)) (hb1' : ((s[1]'h1).toNat : Int) ≤ 191) (hlo : w.cell? ⟨1, 6, none⟩ = some (.int .u8 144)) (hhi : w.cell? ⟨1, 7, none⟩ = some (.int .u8 191)) :
    Calls Tryd.prog 22 #[.string s] w fun e w' => e = .returned (.bool false) ∧ Below w.heap.size w w' := by
  have hb0 : ((s[0]'h0).toNat : Int) < 256 := by have := (s[0]'h0).toNat_lt; omega
  go_enter Tryd.func22, Tryd.ntmps22
  go_wp2
  go_quiet (fail)
  go_wp2
  go_ret
  exact ⟨rfl, below_drewN (((Below.refl _ w).alloc (Nat.le_refl _) _)) _⟩
set_option maxHeartbeats 400000 in
set_option maxRecDepth 100000 in
theorem full_52_3_lo (s : ByteArray) (w : World) (h0 : 0 < s.size) (hx : w.cell? ⟨0, (s[0]'h0).toNat, none⟩ = some (.int .u8 52)) (hn : s.size = 3) (h1 : 1 < s.size) (hb1 : ((s[1]'h1).toNat : Int) < 144) (hlo : w.cell? ⟨1, 6, none⟩ = some (.int .u8 144)) (hhi : w.cell? ⟨1, 7, none⟩ = some (.int .u8 191)) :
    Calls Tryd.prog 22 #[.string s] w fun e w' => e = .returned (.bool true) ∧ Below w.heap.size w w' := by
  have hb0 : ((s[0]'h0).toNat : Int) < 256 := by have := (s[0]'h0).toNat_lt; omega
  go_enter Tryd.func22, Tryd.ntmps22
  go_wp2
  go_quiet (fail)
  go_wp2
  go_ret
  exact ⟨rfl, below_drewN (((Below.refl _ w).alloc (Nat.le_refl _) _)) _⟩
set_option maxHeartbeats 400000 in
set_option maxRecDepth 100000 in
theorem full_52_3_hi (s : ByteArray) (w : World) (h0 : 0 < s.size) (hx : w.cell? ⟨0, (s[0]'h0).toNat, none⟩ = some (.int .u8 52)) (hn : s.size = 3) (h1 : 1 < s.size) (hb1 : (144 : Int) ≤ ((s[1]'h1).toNat : Int)) (hb1' : (191 : Int) < ((s[1]'h1).toNat : Int)) (hlo : w.cell? ⟨1, 6, none⟩ = some (.int .u8 144)) (hhi : w.cell? ⟨1, 7, none⟩ = some (.int .u8 191)) :
    Calls Tryd.prog 22 #[.string s] w fun e w' => e = .returned (.bool true) ∧ Below w.heap.size w w' := by
  have hb0 : ((s[0]'h0).toNat : Int) < 256 := by have := (s[0]'h0).toNat_lt; omega
  go_enter Tryd.func22, Tryd.ntmps22
  go_wp2
  go_quiet (fail)
  go_wp2
  go_ret
  exact ⟨rfl, below_drewN (((Below.refl _ w).alloc (Nat.le_refl _) _)) _⟩
set_option maxHeartbeats 400000 in
set_option maxRecDepth 100000 in
theorem full_52_3_lo2 (s : ByteArray) (w : World) (h0 : 0 < s.size) (hx : w.cell? ⟨0, (s[0]'h0).toNat, none⟩ = some (.int .u8 52)) (hn : s.size = 3) (h1 : 1 < s.size) (hb1 : (144 : Int) ≤ ((s[1]'h1).toNat : Int)) (hb1' : ((s[1]'h1).toNat : Int) ≤ 191) (h2 : 2 < s.size) (hb2 : ((s[2]'h2).toNat : Int) < 128) (hlo : w.cell? ⟨1, 6, none⟩ = some (.int .u8 144)) (hhi : w.cell? ⟨1, 7, none⟩ = some (.int .u8 191)) :
    Calls Tryd.prog 22 #[.string s] w fun e w' => e = .returned (.bool true) ∧ Below w.heap.size w w' := by
  have hb0 : ((s[0]'h0).toNat : Int) < 256 := by have := (s[0]'h0).toNat_lt; omega
  go_enter Tryd.func22, Tryd.ntmps22
  go_wp2
  go_quiet (fail)
  go_wp2
  go_ret
  exact ⟨rfl, below_drewN (((Below.refl _ w).alloc (Nat.le_refl _) _)) _⟩
set_option maxHeartbeats 400000 in
set_option maxRecDepth 100000 in
theorem full_52_3_hi2 (s : ByteArray) (w : World) (h0 : 0 < s.size) (hx : w.cell? ⟨0, (s[0]'h0).toNat, none⟩ = some (.int .u8 52)) (hn : s.size = 3) (h1 : 1 < s.size) (hb1 : (144 : Int) ≤ ((s[1]'h1).toNat : Int)) (hb1' : ((s[1]'h1).toNat : Int) ≤ 191) (h2 : 2 < s.size) (hb2 : (128 : Int) ≤ ((s[2]'h2).toNat : Int)) (hb2' : (191 : Int) < ((s[2]'h2).toNat : Int)) (hlo : w.cell? ⟨1, 6, none⟩ = some (.int .u8 144)) (hhi : w.cell? ⟨1, 7, none⟩ = some (.int .u8 191)) :
    Calls Tryd.prog 22 #[.string s] w fun e w' => e = .returned (.bool true) ∧ Below w.heap.size w w' := by
  have hb0 : ((s[0]'h0).toNat : Int) < 256 := by have := (s[0]'h0).toNat_lt; omega
  go_enter Tryd.func22, Tryd.ntmps22
  go_wp2
  go_quiet (fail)
  go_wp2
  go_ret
  exact ⟨rfl, below_drewN (((Below.refl _ w).alloc (Nat.le_refl _) _)) _⟩
set_option maxHeartbeats 400000 in
set_option maxRecDepth 100000 in
theorem full_52_3_in2 (s : ByteArray) (w : World) (h0 : 0 < s.size) (hx : w.cell? ⟨0, (s[0]'h0).toNat, none⟩ = some (.int .u8 52)) (hn : s.size = 3) (h1 : 1 < s.size) (hb1 : (144 : Int) ≤ ((s[1]'h1).toNat : Int)) (hb1' : ((s[1]'h1).toNat : Int) ≤ 191) (h2 : 2 < s.size) (hb2 : (128 : Int) ≤ ((s[2]'h2).toNat : Int)) (hb2' : ((s[2]'h2).toNat : Int) ≤ 191) (hlo : w.cell? ⟨1, 6, none⟩ = some (.int .u8 144)) (hhi : w.cell? ⟨1, 7, none⟩ = some (.int .u8 191)) :
    Calls Tryd.prog 22 #[.string s] w fun e w' => e = .returned (.bool false) ∧ Below w.heap.size w w' := by
  have hb0 : ((s[0]'h0).toNat : Int) < 256 := by have := (s[0]'h0).toNat_lt; omega
  go_enter Tryd.func22, Tryd.ntmps22
  go_wp2
  go_quiet (fail)
  go_wp2
  go_ret
  exact ⟨rfl, below_drewN (((Below.refl _ w).alloc (Nat.le_refl _) _)) _⟩
set_option maxHeartbeats 400000 in
set_option maxRecDepth 100000 in
theorem full_4_long (s : ByteArray) (w : World) (h0 : 0 < s.size) (hx : w.cell? ⟨0, (s[0]'h0).toNat, none⟩ = some (.int .u8 4)) (hn : (4 : Int) ≤ (s.size : Int)) :
    Calls Tryd.prog 22 #[.string s] w fun e w' => e = .returned (.bool true) ∧ Below w.heap.size w w' := by
  have hb0 : ((s[0]'h0).toNat : Int) < 256 := by have := (s[0]'h0).toNat_lt; omega
  go_enter Tryd.func22, Tryd.ntmps22
  go_wp2
  go_ret
  exact ⟨rfl, Below.refl _ _⟩
set_option maxHeartbeats 400000 in
set_option maxRecDepth 100000 in
theorem full_4_1 (s : ByteArray) (w : World) (h0 : 0 < s.size) (hx : w.cell? ⟨0, (s[0]'h0).toNat, none⟩ = some (.int .u8 4)) (hn : s.size = 1) (hlo : w.cell? ⟨1, 0, none⟩ = some (.int .u8 128)) (hhi : w.cell? ⟨1, 1, none⟩ = some (.int .u8 191)) :
    Calls Tryd.prog 22 #[.string s] w fun e w' => e = .returned (.bool false) ∧ Below w.heap.size w w' := by
  have hb0 : ((s[0]'h0).toNat : Int) < 256 := by have := (s[0]'h0).toNat_lt; omega
  go_enter Tryd.func22, Tryd.ntmps22
  go_wp2
  go_quiet (fail)
  go_wp2
  go_ret
  exact ⟨rfl, below_drewN (((Below.refl _ w).alloc (Nat.le_refl _) _)) _⟩
set_option maxHeartbeats 400000 in
set_option maxRecDepth 100000 in
theorem full_4_2_lo (s : ByteArray) (w : World) (h0 : 0 < s.size) (hx : w.cell? ⟨0, (s[0]'h0).toNat, none⟩ = some (.int .u8 4)) (hn : s.size = 2) (h1 : 1 < s.size) (hb1 : ((s[1]'h1).toNat : Int) < 128) (hlo : w.cell? ⟨1, 0, none⟩ = some (.int .u8 128)) (hhi : w.cell? ⟨1, 1, none⟩ = some (.int .u8 191)) :
    Calls Tryd.prog 22 #[.string s] w fun e w' => e = .returned (.bool true) ∧ Below w.heap.size w w' := by
  have hb0 : ((s[0]'h0).toNat : Int) < 256 := by have := (s[0]'h0).toNat_lt; omega
  go_enter Tryd.func22, Tryd.ntmps22
  go_wp2
  go_quiet (fail)
  go_wp2
  go_ret
  exact ⟨rfl, below_drewN (((Below.refl _ w).alloc (Nat.le_refl _) _)) _⟩
set_option maxHeartbeats 400000 in
set_option maxRecDepth 100000 in
theorem full_4_2_hi (s : ByteArray) (w : World) (h0 : 0 < s.size) (hx : w.cell? ⟨0, (s[0]'h0).toNat, none⟩ = some (.int .u8 4)) (hn : s.size = 2) (h1 : 1 < s.size) (hb1 : (128 : Int) ≤ ((s[1]'h1).toNat : Int)) (hb1' : (191 : Int) < ((s[1]'h1).toNat : Int)) (hlo : w.cell? ⟨1, 0, none⟩ = some (.int .u8 128)) (hhi : w.cell? ⟨1, 1, none⟩ = some (.int .u8 191)) :
    Calls Tryd.prog 22 #[.string s] w fun e w' => e = .returned (.bool true) ∧ Below w.heap.size w w' := by
  have hb0 : ((s[0]'h0).toNat : Int) < 256 := by have := (s[0]'h0).toNat_lt; omega
  go_enter Tryd.func22, Tryd.ntmps22
  go_wp2
  go_quiet (fail)
  go_wp2
  go_ret
  exact ⟨rfl, below_drewN (((Below.refl _ w).alloc (Nat.le_refl _) _)) _⟩
set_option maxHeartbeats 400000 in
set_option maxRecDepth 100000 in
theorem full_4_2_in (s : ByteArray) (w : World) (h0 : 0 < s.size) (hx : w.cell? ⟨0, (s[0]'h0).toNat, none⟩ = some (.int .u8 4)) (hn : s.size = 2) (h1 : 1 < s.size) (hb1 : (128 : Int) ≤ ((s[1]'h1).toNat : Int)) (hb1' : ((s[1]'h1).toNat : Int) ≤ 191) (hlo : w.cell? ⟨1, 0, none⟩ = some (.int .u8 128)) (hhi : w.cell? ⟨1, 1, none⟩ = some (.int .u8 191)) :
    Calls Tryd.prog 22 #[.string s] w fun e w' => e = .returned (.bool false) ∧ Below w.heap.size w w' := by
  have hb0 : ((s[0]'h0).toNat : Int) < 256 := by have := (s[0]'h0).toNat_lt; omega
  go_enter Tryd.func22, Tryd.ntmps22
  go_wp2
  go_quiet (fail)
  go_wp2
  go_ret
  exact ⟨rfl, below_drewN (((Below.refl _ w).alloc (Nat.le_refl _) _)) _⟩
set_option maxHeartbeats 400000 in
set_option maxRecDepth 100000 in
theorem full_4_3_lo (s : ByteArray) (w : World) (h0 : 0 < s.size) (hx : w.cell? ⟨0, (s[0]'h0).toNat, none⟩ = some (.int .u8 4)) (hn : s.size = 3) (h1 : 1 < s.size) (hb1 : ((s[1]'h1).toNat : Int) < 128) (hlo : w.cell? ⟨1, 0, none⟩ = some (.int .u8 128)) (hhi : w.cell? ⟨1, 1, none⟩ = some (.int .u8 191)) :
    Calls Tryd.prog 22 #[.string s] w fun e w' => e = .returned (.bool true) ∧ Below w.heap.size w w' := by
  have hb0 : ((s[0]'h0).toNat : Int) < 256 := by have := (s[0]'h0).toNat_lt; omega
  go_enter Tryd.func22, Tryd.ntmps22
  go_wp2
  go_quiet (fail)
  go_wp2
  go_ret
  exact ⟨rfl, below_drewN (((Below.refl _ w).alloc (Nat.le_refl _) _)) _⟩
set_option maxHeartbeats 400000 in
set_option maxRecDepth 100000 in
theorem full_4_3_hi (s : ByteArray) (w : World) (h0 : 0 < s.size) (hx : w.cell? ⟨0, (s[0]'h0).toNat, none⟩ = some (.int .u8 4)) (hn : s.size = 3) (h1 : 1 < s.size) (hb1 : (128 : Int) ≤ ((s[1]'h1).toNat : Int)) (hb1' : (191 : Int) < ((s[1]'h1).toNat : Int)) (hlo : w.cell? ⟨1, 0, none⟩ = some (.int .u8 128)) (hhi : w.cell? ⟨1, 1, none⟩ = some (.int .u8 191)) :
    Calls Tryd.prog 22 #[.string s] w fun e w' => e = .returned (.bool true) ∧ Below w.heap.size w w' := by
  have hb0 : ((s[0]'h0).toNat : Int) < 256 := by have := (s[0]'h0).toNat_lt; omega
  go_enter Tryd.func22, Tryd.ntmps22
  go_wp2
  go_quiet (fail)
  go_wp2
  go_ret
  exact ⟨rfl, below_drewN (((Below.refl _ w).alloc (Nat.le_refl _) _)) _⟩
set_option maxHeartbeats 400000 in
set_option maxRecDepth 100000 in
theorem full_4_3_lo2 (s : ByteArray) (w : World) (h0 : 0 < s.size) (hx : w.cell? ⟨0, (s[0]'h0).toNat, none⟩ = some (.int .u8 4)) (hn : s.size = 3) (h1 : 1 < s.size) (hb1 : (128 : Int) ≤ ((s[1]'h1).toNat : Int)) (hb1' : ((s[1]'h1).toNat : Int) ≤ 191) (h2 : 2 < s.size) (hb2 : ((s[2]'h2).toNat : Int) < 128) (hlo : w.cell? ⟨1, 0, none⟩ = some (.int .u8 128)) (hhi : w.cell? ⟨1, 1, none⟩ = some (.int .u8 191)) :
    Calls Tryd.prog 22 #[.string s] w fun e w' => e = .returned (.bool true) ∧ Below w.heap.size w w' := by
  have hb0 : ((s[0]'h0).toNat : Int) < 256 := by have := (s[0]'h0).toNat_lt; omega
  go_enter Tryd.func22, Tryd.ntmps22
  go_wp2
  go_quiet (fail)
  go_wp2
  go_ret
  exact ⟨rfl, below_drewN (((Below.refl _ w).alloc (Nat.le_refl _) _)) _⟩
set_option maxHeartbeats 400000 in
set_option maxRecDepth 100000 in
theorem full_4_3_hi2 (s : ByteArray) (w : World) (h0 : 0 < s.size) (hx : w.cell? ⟨0, (s[0]'h0).toNat, none⟩ = some (.int .u8 4)) (hn : s.size = 3) (h1 : 1 < s.size) (hb1 : (128 : Int) ≤ ((s[1]'h1).toNat : Int)) (hb1' : ((s[1]'h1).toNat : Int) ≤ 191) (h2 : 2 < s.size) (hb2 : (128 : Int) ≤ ((s[2]'h2).toNat : Int)) (hb2' : (191 : Int) < ((s[2]'h2).toNat : Int)) (hlo : w.cell? ⟨1, 0, none⟩ = some (.int .u8 128)) (hhi : w.cell? ⟨1, 1, none⟩ = some (.int .u8 191)) :
    Calls Tryd.prog 22 #[.string s] w fun e w' => e = .returned (.bool true) ∧ Below w.heap.size w w' := by
  have hb0 : ((s[0]'h0).toNat : Int) < 256 := by have := (s[0]'h0).toNat_lt; omega
  go_enter Tryd.func22, Tryd.ntmps22
  go_wp2
  go_quiet (fail)
  go_wp2
  go_ret
  exact ⟨rfl, below_drewN (((Below.refl _ w).alloc (Nat.le_refl _) _)) _⟩
set_option maxHeartbeats 400000 in
set_option maxRecDepth 100000 in
theorem full_4_3_in2 (s : ByteArray) (w : World) (h0 : 0 < s.size) (hx : w.cell? ⟨0, (s[0]'h0).toNat, none⟩ = some (.int .u8 4)) (hn : s.size = 3) (h1 : 1 < s.size) (hb1 : (128 : Int) ≤ ((s[1]'h1).toNat : Int)) (hb1' : ((s[1]'h1).toNat : Int) ≤ 191) (h2 : 2 < s.size) (hb2 : (128 : Int) ≤ ((s[2]'h2).toNat : Int)) (hb2' : ((s[2]'h2).toNat : Int) ≤ 191) (hlo : w.cell? ⟨1, 0, none⟩ = some (.int .u8 128)) (hhi : w.cell? ⟨1, 1, none⟩ = some (.int .u8 191)) :
    Calls Tryd.prog 22 #[.string s] w fun e w' => e = .returned (.bool false) ∧ Below w.heap.size w w' := by
  have hb0 : ((s[0]'h0).toNat : Int) < 256 := by have := (s[0]'h0).toNat_lt; omega
  go_enter Tryd.func22, Tryd.ntmps22
  go_wp2
  go_quiet (fail)
  go_wp2
  go_ret
  exact ⟨rfl, below_drewN (((Below.refl _ w).alloc (Nat.le_refl _) _)) _⟩
set_option maxHeartbeats 400000 in
set_option maxRecDepth 100000 in
theorem full_68_long (s : ByteArray) (w : World) (h0 : 0 < s.size) (hx : w.cell? ⟨0, (s[0]'h0).toNat, none⟩ = some (.int .u8 68)) (hn : (4 : Int) ≤ (s.size : Int)) :
    Calls Tryd.prog 22 #[.string s] w fun e w' => e = .returned (.bool true) ∧ Below w.heap.size w w' := by
  have hb0 : ((s[0]'h0).toNat : Int) < 256 := by have := (s[0]'h0).toNat_lt; omega
  go_enter Tryd.func22, Tryd.ntmps22
  go_wp2
  go_ret
  exact ⟨rfl, Below.refl _ _⟩
set_option maxHeartbeats 400000 in
set_option maxRecDepth 100000 in
theorem full_68_1 (s : ByteArray) (w : World) (h0 : 0 < s.size) (hx : w.cell? ⟨0, (s[0]'h0).toNat, none⟩ = some (.int .u8 68)) (hn : s.size = 1) (hlo : w.cell? ⟨1, 8, none⟩ = some (.int .u8 128)) (hhi : w.cell? ⟨1, 9, none⟩ = some (.int .u8 143)) :
    Calls Tryd.prog 22 #[.string s] w fun e w' => e = .returned (.bool false) ∧ Below w.heap.size w w' := by
  have hb0 : ((s[0]'h0).toNat : Int) < 256 := by have := (s[0]'h0).toNat_lt; omega
  go_enter Tryd.func22, Tryd.ntmps22
  go_wp2
  go_quiet (fail)
  go_wp2
  go_ret
  exact ⟨rfl, below_drewN (((Below.refl _ w).alloc (Nat.le_refl _) _)) _⟩
set_option maxHeartbeats 400000 in
set_option maxRecDepth 100000 in
theorem full_68_2_lo (s : ByteArray) (w : World) (h0 : 0 < s.size) (hx : w.cell? ⟨0, (s[0]'h0).toNat, none⟩ = some (.int .u8 68)) (hn : s.size = 2) (h1 : 1 < s.size) (hb1 : ((s[1]'h1).toNat : Int) < 128) (hlo : w.cell? ⟨1, 8, none⟩ = some (.int .u8 128)) (hhi : w.cell? ⟨1, 9, none⟩ = some (.int .u8 143)) :
    Calls Tryd.prog 22 #[.string s] w fun e w' => e = .returned (.bool true) ∧ Below w.heap.size w w' := by
  have hb0 : ((s[0]'h0).toNat : Int) < 256 := by have := (s[0]'h0).toNat_lt; omega
  go_enter Tryd.func22, Tryd.ntmps22
  go_wp2
  go_quiet (fail)
  go_wp2
  go_ret
  exact ⟨rfl, below_drewN (((Below.refl _ w).alloc (Nat.le_refl _) _)) _⟩
set_option maxHeartbeats 400000 in
set_option maxRecDepth 100000 in
theorem full_68_2_hi (s : ByteArray) (w : World) (h0 : 0 < s.size) (hx : w.cell? ⟨0, (s[0]'h0).toNat, none⟩ = some (.int .u8 68)) (hn : s.size = 2) (h1 : 1 < s.size) (hb1 : (128 : Int) ≤ ((s[1]'h1).toNat : Int)) (hb1' : (143 : Int) < ((s[1]'h1).toNat : Int)) (hlo : w.cell? ⟨1, 8, none⟩ = some (.int .u8 128)) (hhi : w.cell? ⟨1, 9, none⟩ = some (.int .u8 143)) :
    Calls Tryd.prog 22 #[.string s] w fun e w' => e = .returned (.bool true) ∧ Below w.heap.size w w' := by
  have hb0 : ((s[0]'h0).toNat : Int) < 256 := by have := (s[0]'h0).toNat_lt; omega
  go_enter Tryd.func22, Tryd.ntmps22
  go_wp2
  go_quiet (fail)
  go_wp2
  go_ret
  exact ⟨rfl, below_drewN (((Below.refl _ w).alloc (Nat.le_refl _) _)) _⟩
set_option maxHeartbeats 400000 in
set_option maxRecDepth 100000 in
theorem full_68_2_in (s : ByteArray) (w : World) (h0 : 0 < s.size) (hx : w.cell? ⟨0, (s[0]'h0).toNat, none⟩ = some (.int .u8 68)) (hn : s.size = 2) (h1 : 1 < s.size) (hb1 : (128 : Int) ≤ ((s[1]'h1).toNat : Int)) (hb1' : ((s[1]'h1).toNat : Int) ≤ 143) (hlo : w.cell? ⟨1, 8, none⟩ = some (.int .u8 128)) (hhi : w.cell? ⟨1, 9, none⟩ = some (.int .u8 143)) :
    Calls Tryd.prog 22 #[.string s] w fun e w' => e = .returned (.bool false) ∧ Below w.heap.size w w' := by
  have hb0 : ((s[0]'h0).toNat : Int) < 256 := by have := (s[0]'h0).toNat_lt; omega
  go_enter Tryd.func22, Tryd.ntmps22
  go_wp2
  go_quiet (fail)
  go_wp2
  go_ret
  exact ⟨rfl, below_drewN (((Below.refl _ w).alloc (Nat.le_refl _) _)) _⟩
set_option maxHeartbeats 400000 in
set_option maxRecDepth 100000 in
theorem full_68_3_lo (s : ByteArray) (w : World) (h0 : 0 < s.size) (hx : w.cell? ⟨0, (s[0]'h0).toNat, none⟩ = some (.int .u8 68)) (hn : s.size = 3) (h1 : 1 < s.size) (hb1 : ((s[1]'h1).toNat : Int) < 128) (hlo : w.cell? ⟨1, 8, none⟩ = some (.int .u8 128)) (hhi : w.cell? ⟨1, 9, none⟩ = some (.int .u8 143)) :
    Calls Tryd.prog 22 #[.string s] w fun e w' => e = .returned (.bool true) ∧ Below w.heap.size w w' := by
  have hb0 : ((s[0]'h0).toNat : Int) < 256 := by have := (s[0]'h0).toNat_lt; omega
  go_enter Tryd.func22, Tryd.ntmps22
  go_wp2
  go_quiet (fail)
  go_wp2
  go_ret
  exact ⟨rfl, below_drewN (((Below.refl _ w).alloc (Nat.le_refl _) _)) _⟩
set_option maxHeartbeats 400000 in
set_option maxRecDepth 100000 in
theorem full_68_3_hi (s : ByteArray) (w : World) (h0 : 0 < s.size) (hx : w.cell? ⟨0, (s[0]'h0).toNat, none⟩ = some (.int .u8 68)) (hn : s.size = 3) (h1 : 1 < s.size) (hb1 : (128 : Int) ≤ ((s[1]'h1).toNat : Int)) (hb1' : (143 : Int) < ((s[1]'h1).toNat : Int)) (hlo : w.cell? ⟨1, 8, none⟩ = some (.int .u8 128)) (hhi : w.cell? ⟨1, 9, none⟩ = some (.int .u8 143)) :
    Calls Tryd.prog 22 #[.string s] w fun e w' => e = .returned (.bool true) ∧ Below w.heap.size w w' := by
  have hb0 : ((s[0]'h0).toNat : Int) < 256 := by have := (s[0]'h0).toNat_lt; omega
  go_enter Tryd.func22, Tryd.ntmps22
  go_wp2
  go_quiet (fail)
  go_wp2
  go_ret
  exact ⟨rfl, below_drewN (((Below.refl _ w).alloc (Nat.le_refl _) _)) _⟩
set_option maxHeartbeats 400000 in
set_option maxRecDepth 100000 in
theorem full_68_3_lo2 (s : ByteArray) (w : World) (h0 : 0 < s.size) (hx : w.cell? ⟨0, (s[0]'h0).toNat, none⟩ = some (.int .u8 68)) (hn : s.size = 3) (h1 : 1 < s.size) (hb1 : (128 : Int) ≤ ((s[1]'h1).toNat : Int)) (hb1' : ((s[1]'h1).toNat : Int) ≤ 143) (h2 : 2 < s.size) (hb2 : ((s[2]'h2).toNat : Int) < 128) (hlo : w.cell? ⟨1, 8, none⟩ = some (.int .u8 128)) (hhi : w.cell? ⟨1, 9, none⟩ = some (.int .u8 143)) :
    Calls Tryd.prog 22 #[.string s] w fun e w' => e = .returned (.bool true) ∧ Below w.heap.size w w' := by
  have hb0 : ((s[0]'h0).toNat : Int) < 256 := by have := (s[0]'h0).toNat_lt; omega
  go_enter Tryd.func22, Tryd.ntmps22
  go_wp2
  go_quiet (fail)
  go_wp2
  go_ret
  exact ⟨rfl, below_drewN (((Below.refl _ w).alloc (Nat.le_refl _) _)) _⟩
set_option maxHeartbeats 400000 in
set_option maxRecDepth 100000 in
theorem full_68_3_hi2 (s : ByteArray) (w : World) (h0 : 0 < s.size) (hx : w.cell? ⟨0, (s[0]'h0).toNat, none⟩ = some (.int .u8 68)) (hn : s.size = 3) (h1 : 1 < s.size) (hb1 : (128 : Int) ≤ ((s[1]'h1).toNat : Int)) (hb1' : ((s[1]'h1).toNat : Int) ≤ 143) (h2 : 2 < s.size) (hb2 : (128 : Int) ≤ ((s[2]'h2).toNat : Int)) (hb2' : (191 : Int) < ((s[2]'h2).toNat : Int)) (hlo : w.cell? ⟨1, 8, none⟩ = some (.int .u8 128)) (hhi : w.cell? ⟨1, 9, none⟩ = some (.int .u8 143)) :
    Calls Tryd.prog 22 #[.string s] w fun e w' => e = .returned (.bool true) ∧ Below w.heap.size w w' := by
  have hb0 : ((s[0]'h0).toNat : Int) < 256 := by have := (s[0]'h0).toNat_lt; omega
  go_enter Tryd.func22, Tryd.ntmps22
  go_wp2
  go_quiet (fail)
  go_wp2
  go_ret
  exact ⟨rfl, below_drewN (((Below.refl _ w).alloc (Nat.le_refl _) _)) _⟩
set_option maxHeartbeats 400000 in
set_option maxRecDepth 100000 in
theorem full_68_3_in2 (s : ByteArray) (w : World) (h0 : 0 < s.size) (hx : w.cell? ⟨0, (s[0]'h0).toNat, none⟩ = some (.int .u8 68)) (hn : s.size = 3) (h1 : 1 < s.size) (hb1 : (128 : Int) ≤ ((s[1]'h1).toNat : Int)) (hb1' : ((s[1]'h1).toNat : Int) ≤ 143) (h2 : 2 < s.size) (hb2 : (128 : Int) ≤ ((s[2]'h2).toNat : Int)) (hb2' : ((s[2]'h2).toNat : Int) ≤ 191) (hlo : w.cell? ⟨1, 8, none⟩ = some (.int .u8 128)) (hhi : w.cell? ⟨1, 9, none⟩ = some (.int .u8 143)) :
    Calls Tryd.prog 22 #[.string s] w fun e w' => e = .returned (.bool false) ∧ Below w.heap.size w w' := by
  have hb0 : ((s[0]'h0).toNat : Int) < 256 := by have := (s[0]'h0).toNat_lt; omega
  go_enter Tryd.func22, Tryd.ntmps22
  go_wp2
  go_quiet (fail)
  go_wp2
  go_ret
  exact ⟨rfl, below_drewN (((Below.refl _ w).alloc (Nat.le_refl _) _)) _⟩
end Go.Proofs.YtjhiebpehpaapaaDoor
