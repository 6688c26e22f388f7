/-
  Over this program: a shape around others (around).
-/
import Derived.Test.YtmmkfpeckfmjeaaDoorShp
namespace Go.Proofs.YtmmkfpeckfmjeaaDoor
open Go Go.RowKit
theorem alloc4 (w : World) (o1 o2 o3 o4 : Obj) : Below w.heap.size w ((((w.alloc o1).alloc o2).alloc o3).alloc o4) :=
  ((((Below.refl _ _).alloc (Nat.le_refl _) o1).alloc (by simp) o2).alloc (by simp; omega) o3).alloc (by simp; omega) o4
set_option maxHeartbeats 1000000 in
set_option maxRecDepth 100000 in
theorem around_any (s k : Nst) (m least most : Nat) (d0 e0 : Int) (ao1 : Option Addr) (n1 c1 F : Nat) (cap : Array Value) (ao : Option Addr) (kk kc : Nat) (bo1 : Option Addr) (m1 b1 G : Nat) (dap : Array Value) (bo : Option Addr) (lk lc : Nat) (w : World) {P : Nat → Prop}
    (hs : FRow P w (.slice ao1 n1 c1) s.fds) (ht : TstAt P w (.func (.func F) #[] cap) s.text)
    (hk : NstAt P w m k (.string ⟨k.nm.toArray⟩) (.slice bo1 m1 b1) (.func (.func G) #[] dap) (.int .i64 k.least) (.int .i64 k.most) (.slice bo lk lc)) :
    Calls Tryd.prog 42 #[.agg #[.string ⟨s.nm.toArray⟩, .slice ao1 n1 c1, .func (.func F) #[] cap, .int .i64 d0, .int .i64 e0, .slice ao kk kc], .int .i64 least, .int .i64 most, .agg #[.string ⟨k.nm.toArray⟩, .slice bo1 m1 b1, .func (.func G) #[] dap, .int .i64 k.least, .int .i64 k.most, .slice bo lk lc]] w fun e w' => NOut (Nw P w.heap.size) (m + 1) (s.around least most k) e w' ∧ Below w.heap.size w w' := by
  have HS : Hid (FRow _ _ _ _) := hs
  have HT : Hid (TstAt _ _ _ _) := ht
  have HK : Hid (NstAt _ _ _ _ _ _ _ _ _ _) := hk
  obtain ⟨sn, hsn⟩ : ∃ t : ByteArray, (⟨s.nm.toArray⟩ : ByteArray) = t := ⟨_, rfl⟩
  obtain ⟨kn, hkn⟩ : ∃ t : ByteArray, (⟨k.nm.toArray⟩ : ByteArray) = t := ⟨_, rfl⟩
  rw [hkn] at HK
  rw [hsn, hkn]
  have HSN : Hid _ := hsn
  clear hs ht hk hsn hkn
  go_enter Tryd.func42, Tryd.ntmps42
  go_wp2_with fail
  go_region
  all_goals (go_wp2_with fail)
  refine bodyPost_ret (v := .agg #[.string sn, .slice ao1 n1 c1, .func (.func F) #[] cap, .int .i64 least, .int .i64 most, .slice (some ⟨w.heap.size + 1 + 1 + 1, 0, none⟩) 1 1]) (by simp [results, Tryd.results42, go_sem]) rfl ⟨⟨_, rfl, ao1, n1, c1, F, cap, some ⟨w.heap.size + 1 + 1 + 1, 0, none⟩, 1, 1, ?_, ?_⟩, (alloc4 w _ _ _ _).drew⟩
  · rw [← HSN.out]; rfl
  · have hp : ∀ o1 o2 o3 o4, Stp P (Nw P w.heap.size) w ((((w.alloc o1).alloc o2).alloc o3).alloc o4).drew := fun o1 o2 o3 o4 k hk hl => ⟨.inl hk, (alloc4 w o1 o2 o3 o4).drew.block k hl⟩
    refine ⟨rfl, FRow.step HS.out (hp _ _ _ _), TstAt.step HT.out (hp _ _ _ _), rfl, rfl, [.string kn, .slice bo1 m1 b1, .func (.func G) #[] dap, .int .i64 k.least, .int .i64 k.most, .slice bo lk lc], ?_, ⟨_, _, _, _, _, _, [], rfl, NstAt.step (hp _ _ _ _) HK.out, rfl⟩⟩
    have hr := fun o1 o2 o3 => row_block (P := Nw P w.heap.size) (((w.alloc o1).alloc o2).alloc o3) (.inr (by simp; omega)) 59 #[.string kn, .slice bo1 m1 b1, .func (.func G) #[] dap, .int .i64 k.least, .int .i64 k.most, .slice bo lk lc] 1
    have e3 : ∀ o1 o2 o3, (((w.alloc o1).alloc o2).alloc o3).heap.size = w.heap.size + 1 + 1 + 1 := fun o1 o2 o3 => by simp
    have h := hr (.cells #[.string sn, .slice ao1 n1 c1, .func (.func F) #[] cap, .int .i64 least, .int .i64 most, .slice (some ⟨w.heap.size + 1 + 1 + 1, 0, none⟩) 1 1] 59) (.cells #[.string kn, .slice bo1 m1 b1, .func (.func G) #[] dap, .int .i64 k.least, .int .i64 k.most, .slice bo lk lc] 59) (.cells #[.string sn, .slice ao1 n1 c1, .func (.func F) #[] cap, .int .i64 least, .int .i64 most, .slice (some ⟨w.heap.size + 1 + 1 + 1, 0, none⟩) 1 1] 59)
    rw [e3] at h
    exact h
end Go.Proofs.YtmmkfpeckfmjeaaDoor
