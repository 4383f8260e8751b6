/- Check. -/
import Derived.Test.YtmiidniihbhkdaaDMark
import Derived.Stop.BytesEq
import Derived.Deep.WholeRow
import Derived.Lib.BufferWrite
import Derived.Lib.SlBuf
import Derived.Deep.RegionHeld3
import Derived.Outline
namespace Go.Proofs.Ytmiidniihbhkdaa
open Go.RowKit

theorem Box8.drew {w : World} {b : Nat} {v : Nat → Value} (h : Box8 w b v) : Box8 w.drew b v := ⟨h.cell, h.free⟩
theorem below_drewL {B : Nat} {x y : World} (h : Below B x.drew y) : Below B x y := ⟨h.os, h.tape, h.output, h.size, h.block⟩
/-- what Check answers -/
def chk (k m x : List UInt8) : Bool := !k.isEmpty && (x == dMark k m)
theorem info8 : (Try.prog.info? 5).map (·.size) = some 1 := by kernel_rfl

theorem dig_explicit (l : List UInt8) : dig l = [UInt8.ofNat (db l 0), UInt8.ofNat (db l 1), UInt8.ofNat (db l 2), UInt8.ofNat (db l 3), UInt8.ofNat (db l 4), UInt8.ofNat (db l 5), UInt8.ofNat (db l 6), UInt8.ofNat (db l 7)] := by
  obtain ⟨a0, a1, a2, a3⟩ := db_A l
  obtain ⟨b0, b1, b2, b3⟩ := db_B l
  rw [a0, a1, a2, a3, b0, b1, b2, b3]
  rfl
theorem eight {l : List UInt8} (h : l.length = 8) : ∃ c0 c1 c2 c3 c4 c5 c6 c7, l = [c0, c1, c2, c3, c4, c5, c6, c7] := by
  match l, h with
  | [c0, c1, c2, c3, c4, c5, c6, c7], _ => exact ⟨c0, c1, c2, c3, c4, c5, c6, c7, rfl⟩

set_option maxRecDepth 100000 in
set_option maxHeartbeats 1000000 in
theorem check_empty (k m x : ByteArray) (hk : k.size = 0) (w : World) :
    Calls Try.prog 18 #[.string k, .string m, .string x] w fun e w' => e = .returned (.bool (chk (bs k) (bs m) (bs x))) ∧ Below w.heap.size w w' := by
  have hc : chk (bs k) (bs m) (bs x) = false := by
    have : bs k = [] := List.eq_nil_of_length_eq_zero (by rw [bs_len, hk])
    simp [chk, this]
  rw [hc]
  have ht : ((k.size : Int) == 0) = true := by rw [hk]; rfl
  clear hc hk
  go_enter Try.func18, Try.ntmps18
  go_wp2
  go_ret
  exact ⟨rfl, Below.refl _ _⟩

set_option maxRecDepth 100000 in
set_option maxHeartbeats 1000000 in
theorem check_short (k m x : ByteArray) (hk : 0 < k.size) (hk1 : k.size ≤ 9223372036854775807) (hx : ¬ x.size = 8) (hx1 : x.size ≤ 9223372036854775807) (w : World) :
    Calls Try.prog 18 #[.string k, .string m, .string x] w fun e w' => e = .returned (.bool (chk (bs k) (bs m) (bs x))) ∧ Below w.heap.size w w' := by
  have hc : chk (bs k) (bs m) (bs x) = false := by
    have : ¬ bs x = dMark (bs k) (bs m) := fun e => hx (by rw [← bs_len, e]; rfl)
    simp [chk, this]
  rw [hc]
  have ht : ((k.size : Int) == 0) = false := by rw [beq_eq_false_iff_ne]; omega
  have hn : ((x.size : Int) != 8) = true := by rw [bne_iff_ne]; omega
  clear hc hx
  go_enter Try.func18, Try.ntmps18
  go_wp2
  go_ret
  exact ⟨rfl, Below.refl _ _⟩

set_option maxRecDepth 100000 in
set_option maxHeartbeats 1000000 in
theorem check_full (k m x : ByteArray) (hk : 0 < k.size) (hk1 : k.size ≤ 9223372036854775807) (hm : m.size ≤ 9223372036854775807) (hx : x.size = 8) (w : World) :
    Calls Try.prog 18 #[.string k, .string m, .string x] w fun e w' => e = .returned (.bool (chk (bs k) (bs m) (bs x))) ∧ Below w.heap.size w w' := by
  obtain ⟨c0, c1, c2, c3, c4, c5, c6, c7, hx8⟩ := eight (show (bs x).length = 8 by rw [bs_len, hx])
  have hc : chk (bs k) (bs m) (bs x) = (bs x == dMark (bs k) (bs m)) := by
    have : (bs k).isEmpty = false := by
      cases hb : bs k with
      | nil => have := bs_len k; rw [hb] at this; simp at this; omega
      | cons => rfl
    simp [chk, this]
  rw [hc, hx8]
  have hcp := Lib.run_copy_row_string (P := Try.prog) (w.alloc (.cells #[.int .u8 0, .int .u8 0, .int .u8 0, .int .u8 0, .int .u8 0, .int .u8 0, .int .u8 0, .int .u8 0] 43)) 40 9 3 5 w.heap.size 0 8 8 x
    #[.int .u8 0, .int .u8 0, .int .u8 0, .int .u8 0, .int .u8 0, .int .u8 0, .int .u8 0, .int .u8 0] 43 Try.underlying40 info8 (heap_alloc_new w _) (by omega) (by simp [hx])
  rw [show x.data.toList = [c0, c1, c2, c3, c4, c5, c6, c7] from hx8, hx, World.setRow_alloc_new] at hcp
  simp only [Lib.byteCells, List.map_cons, List.map_nil] at hcp
  have ht : ((k.size : Int) == 0) = false := by rw [beq_eq_false_iff_ne]; omega
  have hn : ((x.size : Int) != 8) = false := by rw [hx]; rfl
  clear hc hx
  go_enter Try.func18, Try.ntmps18
  go_wp2
  have b1 : Box8 (w.alloc (.cells #[.int .u8 (c0.toNat : Int), .int .u8 (c1.toNat : Int), .int .u8 (c2.toNat : Int), .int .u8 (c3.toNat : Int), .int .u8 (c4.toNat : Int), .int .u8 (c5.toNat : Int), .int .u8 (c6.toNat : Int), .int .u8 (c7.toNat : Int)] 43)) w.heap.size (fun j => #[.int .u8 (c0.toNat : Int), .int .u8 (c1.toNat : Int), .int .u8 (c2.toNat : Int), .int .u8 (c3.toNat : Int), .int .u8 (c4.toNat : Int), .int .u8 (c5.toNat : Int), .int .u8 (c6.toNat : Int), .int .u8 (c7.toNat : Int)].getD j undef) := Box8.new w _ _ _ _ _ _ _ _ _
  have B1 : Below w.heap.size w (w.alloc (.cells #[.int .u8 (c0.toNat : Int), .int .u8 (c1.toNat : Int), .int .u8 (c2.toNat : Int), .int .u8 (c3.toNat : Int), .int .u8 (c4.toNat : Int), .int .u8 (c5.toNat : Int), .int .u8 (c6.toNat : Int), .int .u8 (c7.toNat : Int)] 43)) := (Below.refl _ w).alloc (Nat.le_refl _) _
  obtain ⟨W1, hW⟩ : ∃ W1, w.alloc (.cells #[.int .u8 (c0.toNat : Int), .int .u8 (c1.toNat : Int), .int .u8 (c2.toNat : Int), .int .u8 (c3.toNat : Int), .int .u8 (c4.toNat : Int), .int .u8 (c5.toNat : Int), .int .u8 (c6.toNat : Int), .int .u8 (c7.toNat : Int)] 43) = W1 := ⟨_, rfl⟩
  rw [hW] at b1 B1 ⊢
  clear hW hcp
  have hq := fun (W : World) => run_equalIn_bytes (P := Try.prog) W 9998 43 5 8 Try.underlying43 Try.underlying5 (fun _ => by kernel_rfl) [c0, c1, c2, c3, c4, c5, c6, c7] (dMark (bs k) (bs m)) rfl rfl
  have heq : ∀ (W : World), (Op.equalIn 10000 43 (.agg #[.int .u8 (c0.toNat : Int), .int .u8 (c1.toNat : Int), .int .u8 (c2.toNat : Int), .int .u8 (c3.toNat : Int), .int .u8 (c4.toNat : Int), .int .u8 (c5.toNat : Int), .int .u8 (c6.toNat : Int), .int .u8 (c7.toNat : Int)]) (aggD (5 :: (le4 (bs k).length ++ (bs k ++ (le4 (bs m).length ++ (bs m ++ bs k))))))).run Try.prog W = .ok ([c0, c1, c2, c3, c4, c5, c6, c7] == dMark (bs k) (bs m)) W := fun W => by
    exact hq W
  clear hq
  have q0 : W1.cell? ⟨w.heap.size, 0, none⟩ = some (.int .u8 (c0.toNat : Int)) := b1.cell 0 (by decide)
  have q1 : W1.cell? ⟨w.heap.size, 1, none⟩ = some (.int .u8 (c1.toNat : Int)) := b1.cell 1 (by decide)
  have q2 : W1.cell? ⟨w.heap.size, 2, none⟩ = some (.int .u8 (c2.toNat : Int)) := b1.cell 2 (by decide)
  have q3 : W1.cell? ⟨w.heap.size, 3, none⟩ = some (.int .u8 (c3.toNat : Int)) := b1.cell 3 (by decide)
  have q4 : W1.cell? ⟨w.heap.size, 4, none⟩ = some (.int .u8 (c4.toNat : Int)) := b1.cell 4 (by decide)
  have q5 : W1.cell? ⟨w.heap.size, 5, none⟩ = some (.int .u8 (c5.toNat : Int)) := b1.cell 5 (by decide)
  have q6 : W1.cell? ⟨w.heap.size, 6, none⟩ = some (.int .u8 (c6.toNat : Int)) := b1.cell 6 (by decide)
  have q7 : W1.cell? ⟨w.heap.size, 7, none⟩ = some (.int .u8 (c7.toNat : Int)) := b1.cell 7 (by decide)
  go_region_held3 (fun w' => w'.cell? ⟨w.heap.size, 0, none⟩ = some (.int .u8 (c0.toNat : Int)) ∧ w'.cell? ⟨w.heap.size, 1, none⟩ = some (.int .u8 (c1.toNat : Int)) ∧ w'.cell? ⟨w.heap.size, 2, none⟩ = some (.int .u8 (c2.toNat : Int)) ∧ w'.cell? ⟨w.heap.size, 3, none⟩ = some (.int .u8 (c3.toNat : Int)) ∧ w'.cell? ⟨w.heap.size, 4, none⟩ = some (.int .u8 (c4.toNat : Int)) ∧ w'.cell? ⟨w.heap.size, 5, none⟩ = some (.int .u8 (c5.toNat : Int)) ∧ w'.cell? ⟨w.heap.size, 6, none⟩ = some (.int .u8 (c6.toNat : Int)) ∧ w'.cell? ⟨w.heap.size, 7, none⟩ = some (.int .u8 (c7.toNat : Int)))
    (first | exact ⟨q0, q1, q2, q3, q4, q5, q6, q7⟩ | exact ⟨p0, p1, p2, p3, p4, p5, p6, p7⟩ | go_keep)
    (first
      | (go_at_call 34; refine (markOf_any k m hk1 hm _).mono ?_; rintro e w3 ⟨rfl, hb3⟩; have b3 := (b1.drew).below hb3 (b1.drew).lt; have p0 := b3.cell 0 (by decide); have p1 := b3.cell 1 (by decide); have p2 := b3.cell 2 (by decide); have p3 := b3.cell 3 (by decide); have p4 := b3.cell 4 (by decide); have p5 := b3.cell 5 (by decide); have p6 := b3.cell 6 (by decide); have p7 := b3.cell 7 (by decide)))
  go_wp2
  go_ret
  exact ⟨rfl, B1.trans (below_drewL (hb3.mono B1.size))⟩

theorem check_any (k m x : ByteArray) (hk1 : k.size ≤ 9223372036854775807) (hm : m.size ≤ 9223372036854775807) (hx1 : x.size ≤ 9223372036854775807) (w : World) :
    Calls Try.prog 18 #[.string k, .string m, .string x] w fun e w' => e = .returned (.bool (chk (bs k) (bs m) (bs x))) ∧ Below w.heap.size w w' := by
  by_cases hk : k.size = 0
  · exact check_empty k m x hk w
  · by_cases hx : x.size = 8
    · exact check_full k m x (by omega) hk1 hm hx w
    · exact check_short k m x (by omega) hk1 hx hx1 w
end Go.Proofs.Ytmiidniihbhkdaa
