/- The text of a digest; the length of a string. -/
import Derived.Test.YtmiidniihbhkdaaDOf
import Derived.Outline
import Derived.WalkKit
import Derived.WalkLawsBesides
import Derived.WalkSpells
import Derived.Laws.IdiomStrings
namespace Go.Proofs.Ytmiidniihbhkdaa
open Go.RowKit

/-- bytes as a string -/
abbrev str (l : List UInt8) : Value := .string ⟨l.toArray⟩

theorem conv_digest (l : List UInt8) (w : World) :
    (convert 40 9 (.slice (some ⟨w.heap.size, 0, none⟩) 8 8)).run Try.prog (w.alloc (cellsD l)) = .ok (str (dig l)) (w.alloc (cellsD l)) := by
  have h := run_convert_bytes_back (P := Try.prog) (w.alloc (cellsD l)) 40 9 5 ⟨w.heap.size, 0, none⟩ 8 (dig l) Try.underlying40 Try.underlying5 Try.underlying9 (fun j hj => by
    have h8 : j < 8 := hj
    match j, h8 with
    | 0, _ | 1, _ | 2, _ | 3, _ | 4, _ | 5, _ | 6, _ | 7, _ => simp [go_sem, Addr.add, db]; rfl)
  rw [dig_len] at h
  exact h
theorem conv_four (b0 b1 b2 b3 : Nat) (h0 : b0 < 256) (h1 : b1 < 256) (h2 : b2 < 256) (h3 : b3 < 256) (t : TypeId) (w : World) :
    (convert 40 9 (.slice (some ⟨w.heap.size, 0, none⟩) 4 4)).run Try.prog (w.alloc (.cells #[.int .u8 (b0 : Int), .int .u8 (b1 : Int), .int .u8 (b2 : Int), .int .u8 (b3 : Int)] t)) =
      .ok (str [UInt8.ofNat b0, UInt8.ofNat b1, UInt8.ofNat b2, UInt8.ofNat b3]) (w.alloc (.cells #[.int .u8 (b0 : Int), .int .u8 (b1 : Int), .int .u8 (b2 : Int), .int .u8 (b3 : Int)] t)) := by
  exact run_convert_bytes_back (P := Try.prog) (w.alloc (.cells #[.int .u8 (b0 : Int), .int .u8 (b1 : Int), .int .u8 (b2 : Int), .int .u8 (b3 : Int)] t)) 40 9 5 ⟨w.heap.size, 0, none⟩ 4 [UInt8.ofNat b0, UInt8.ofNat b1, UInt8.ofNat b2, UInt8.ofNat b3] Try.underlying40 Try.underlying5 Try.underlying9 (fun j hj => by
    have h4 : j < 4 := hj
    match j, h4 with
    | 0, _ | 1, _ | 2, _ | 3, _ => simp [go_sem, Addr.add, UInt8.toNat_ofNat']; omega)

set_option maxRecDepth 100000 in
set_option maxHeartbeats 1000000 in
theorem text_any (l : List UInt8) (w : World) :
    Calls Try.prog 31 #[aggD l] w fun e w' => e = .returned (str (dig l)) ∧ w.alloc (cellsD l) = w' := by
  have hc := conv_digest l w
  go_enter Try.func31, Try.ntmps31
  go_wp2
  go_ret
  exact ⟨rfl, rfl⟩

theorem cast4 (n : Nat) : ((n : Int) % 256 = ((n % 256 : Nat) : Int)) ∧ ((n : Int) / 256 % 256 = ((n / 256 % 256 : Nat) : Int)) ∧ ((n : Int) / 65536 % 256 = ((n / 65536 % 256 : Nat) : Int)) ∧ ((n : Int) / 16777216 % 256 = ((n / 16777216 % 256 : Nat) : Int)) := by
  refine ⟨?_, ?_, ?_, ?_⟩ <;> omega
theorem conv_least (n : Nat) (t : TypeId) (w : World) :
    (convert 40 9 (.slice (some ⟨w.heap.size, 0, none⟩) 4 4)).run Try.prog (w.alloc (.cells #[.int .u8 ((n : Int) % 256), .int .u8 ((n : Int) / 256 % 256), .int .u8 ((n : Int) / 65536 % 256), .int .u8 ((n : Int) / 16777216 % 256)] t)) =
      .ok (str (le4 n)) (w.alloc (.cells #[.int .u8 ((n : Int) % 256), .int .u8 ((n : Int) / 256 % 256), .int .u8 ((n : Int) / 65536 % 256), .int .u8 ((n : Int) / 16777216 % 256)] t)) := by
  obtain ⟨e0, e1, e2, e3⟩ := cast4 n
  rw [e0, e1, e2, e3]
  exact conv_four _ _ _ _ (Nat.mod_lt _ (by decide)) (Nat.mod_lt _ (by decide)) (Nat.mod_lt _ (by decide)) (Nat.mod_lt _ (by decide)) t w

set_option maxRecDepth 100000 in
set_option maxHeartbeats 1000000 in
theorem length_any (s : ByteArray) (hs : s.size ≤ 9223372036854775807) (w : World) :
    Calls Try.prog 33 #[.string s] w fun e w' => e = .returned (str (le4 s.size)) ∧ Below w.heap.size w w' := by
  have hc := conv_least s.size 54 w
  go_enter Try.func33, Try.ntmps33
  go_wp2
  refine wp_loop_rounds 5 ?_
  iterate 5
    rw [rounds_succ]
    go_wp2
  go_ret
  exact ⟨rfl, (Below.refl _ w).alloc (Nat.le_refl _) _⟩
end Go.Proofs.Ytmiidniihbhkdaa
