/- num's Parse of three strings. -/
import Derived.Test.YtmpdeiopdempcaaGreatDoorNumI
import Derived.Test.YtmpdeiopdempcaaGreatDoorNumS
import Derived.Test.YtmpdeiopdempcaaGreatDoorNumJ
import Derived.Test.YtmpdeiopdempcaaGreatDoorNumM
import Derived.Test.YtmpdeiopdempcaaGreatDoorShelf
import Derived.WalkKit
namespace Go.Proofs.YtmpdeiopdempcaaGreatDoor
open Go.RowKit Go.Shelf

/-- a string's length -/
def strLen : Value → Nat
  | .string s => s.size
  | _ => 0
theorem below_bytes (w : World) (t : TypeId) (s : ByteArray) : Below w.heap.size w (Lib.bytesWorld w t s) := Lib.bytesWorld_below w t s

set_option maxRecDepth 100000 in
set_option maxHeartbeats 2000000 in
theorem parse12 (w : World) :
    Calls Tryz.prog 56 #[.string ⟨#[49, 50]⟩] w fun e w' => ∃ (a : Option Addr) (n c : Nat), e = .returned (.tuple #[.slice a n c, .bool true]) ∧ IsD w' a n 12 ∧ n ≤ c ∧ (n = 0 ∨ Fresh w a) ∧ Below w.heap.size w w' := by
  go_enter Tryz.func56, Tryz.ntmps56
  go_wp2_with fail
  go_loopw [0, 4] (fun p dv wr => (p = .string ⟨#[49, 50]⟩ ∧ dv = .slice none 0 0 ∧ wr = w) ∨ (p = .string ⟨#[]⟩ ∧ ∃ (a : Option Addr) (n c : Nat), dv = .slice a n c ∧ IsD wr a n 12 ∧ n ≤ c ∧ (n = 0 ∨ Fresh w a) ∧ Below w.heap.size w wr))
    (fun p _ _ => strLen p)
  case atStart => exact .inl ⟨rfl, rfl, rfl⟩
  case round =>
    rcases hrel with ⟨rfl, rfl, hwr⟩ | ⟨rfl, a, n, c, rfl, hd, hc, hf, hB⟩
    · rw [hwr]
      clear hwr
      go_wp2_with fail
      rw [show (ByteArray.mk #[49, 50]).extract 0 2 = ⟨#[49, 50]⟩ from rfl]
      refine (Tryz.strconv_ParseUint_10_at32_ok ⟨#[49, 50]⟩ (by decide) 12 (by decide) w).mono ?_
      rintro e w1 ⟨rfl, hw1⟩
      have hB1 : Below w.heap.size w w1 := by
        rcases hw1 with rfl | rfl
        · exact Below.refl _ _
        · exact below_bytes _ _ _
      clear hw1
      go_wp2_with fail
      have hBa : Below w1.heap.size w1 (w1.alloc (Obj.cells #[Value.int .u32 1000000000] 52)) := (Below.refl _ w1).alloc (Nat.le_refl _) _
      have hOne : IsD (w1.alloc (Obj.cells #[Value.int .u32 1000000000] 52)) (some ⟨w1.heap.size, 0, none⟩) 1 1000000000 :=
        ⟨(dlen_one (by decide) (by decide)).symm, .inr ⟨_, _, rfl, fun j hj => by match j, hj with | 0, _ => simp [go_sem, dgt, bp_zero]⟩⟩
      have hZero : IsD (w1.alloc (Obj.cells #[Value.int .u32 1000000000] 52)) none 0 0 := ⟨by rw [dlen_zero], .inl rfl⟩
      refine (times_any none (some ⟨w1.heap.size, 0, none⟩) 0 1000000000 0 1 0 1 (by decide) (by decide) _ hZero hOne).mono ?_
      rintro e w2 ⟨a2, n2, c2, rfl, hd2, hc2, hf2, hb2⟩
      rw [Nat.zero_mul] at hd2
      have hn2 : n2 ≤ 64 := by rw [hd2.len, dlen_zero]; decide
      have hB2 := hB1.trans ((hBa.trans (hb2.mono hBa.size)).mono hB1.size)
      go_wp2_with fail
      refine (split_any 12 (by decide) w2).mono ?_
      rintro e w3 ⟨a3, n3, c3, rfl, hd3, hc3, hf3, hb3⟩
      have hn3 : n3 ≤ 64 := by rw [hd3.len, dlen_one (by decide) (by decide)]; decide
      have hB3 := hB2.trans (hb3.mono hB2.size)
      go_wp2_with fail
      refine (plus_any a2 a3 0 12 n2 n3 c2 c3 (by omega) (by omega) w3 (hd2.below hb3) hd3).mono ?_
      rintro e w4 ⟨a4, n4, c4, rfl, hd4, hc4, hf4, hb4⟩
      have hB4 := hB3.trans (hb4.mono hB3.size)
      have hd4' : IsD w4 a4 n4 12 := by simpa using hd4
      go_wp2_with fail
      go_roundw
      case rel => exact .inr ⟨rfl, a4, n4, c4, rfl, hd4', hc4, hf4.imp id fun h ad e => Nat.le_trans hB3.size (h ad e), hB4⟩
      case measure => exact (by decide : (0 : Nat) < 2)
    · go_wp2_with fail
      go_ret2
      exact ⟨a, n, c, rfl, hd, hc, hf, hB⟩

theorem cut12 (w : World) : Calls Tryz.prog 55 #[.string ⟨#[45, 49, 50]⟩, .string ⟨#[45]⟩] w fun e w' => e = .returned (.tuple #[.string ⟨#[49, 50]⟩, .bool true]) ∧ w' = w := by
  refine (Tryz.strings_CutPrefix ⟨#[45, 49, 50]⟩ ⟨#[45]⟩ w).mono ?_
  rintro e w' ⟨rfl, rfl⟩
  exact ⟨by simp [Lib.trimPrefix, Lib.hasPrefix], rfl⟩
theorem cut007 (w : World) : Calls Tryz.prog 55 #[.string ⟨#[48, 48, 55]⟩, .string ⟨#[45]⟩] w fun e w' => e = .returned (.tuple #[.string ⟨#[48, 48, 55]⟩, .bool false]) ∧ w' = w := by
  refine (Tryz.strings_CutPrefix ⟨#[48, 48, 55]⟩ ⟨#[45]⟩ w).mono ?_
  rintro e w' ⟨rfl, rfl⟩
  exact ⟨rfl, rfl⟩
theorem cut0 (w : World) : Calls Tryz.prog 55 #[.string ⟨#[45, 48]⟩, .string ⟨#[45]⟩] w fun e w' => e = .returned (.tuple #[.string ⟨#[48]⟩, .bool true]) ∧ w' = w := by
  refine (Tryz.strings_CutPrefix ⟨#[45, 48]⟩ ⟨#[45]⟩ w).mono ?_
  rintro e w' ⟨rfl, rfl⟩
  exact ⟨by simp [Lib.trimPrefix, Lib.hasPrefix], rfl⟩

set_option maxRecDepth 100000 in
set_option maxHeartbeats 2000000 in
theorem parse_m12 (w : World) : Calls Tryz.prog 21 #[.string ⟨#[45, 49, 50]⟩] w (NumPost w (-12)) := by
  go_enter Tryz.func21, Tryz.ntmps21
  go_wp2_with fail
  have bC : Box2 (w.alloc (Obj.cells #[Value.bool false, Value.slice none 0 0] 27)) w.heap.size (.bool false) (.slice none 0 0) := Box2.new _ _ _ _
  have hB0 : Below w.heap.size w (w.alloc (Obj.cells #[Value.bool false, Value.slice none 0 0] 27)) := (Below.refl _ w).alloc (Nat.le_refl _) _
  obtain ⟨W0, hW0⟩ : ∃ W0, w.alloc (Obj.cells #[Value.bool false, Value.slice none 0 0] 27) = W0 := ⟨_, rfl⟩
  rw [hW0] at bC hB0 ⊢
  clear hW0
  refine (cut12 W0).mono ?_
  rintro e w' ⟨rfl, rfl⟩
  go_wp2_with fail
  refine (parse12 w').mono ?_
  rintro e w1 ⟨a1, n1, c1, rfl, hd1, hc1, hf1, hb1⟩
  have hB1 := hB0.trans (hb1.mono hB0.size)
  have bC1 := bC.below hb1 bC.lt
  go_wp2_with fail
  refine (number_of true a1 n1 c1 12 hc1 (by rw [hd1.len, dlen_one (by decide) (by decide)]; decide) w1 hd1).mono ?_
  rintro e w2 ⟨s2, a2, n2, c2, rfl, hn2, ha2, hb2⟩
  have hB2 := hB1.trans (hb2.mono hB1.size)
  have bC2 := bC1.below hb2 bC1.lt
  have hlt := bC.lt
  have hfq : n2 = 0 ∨ ∀ ad, a2 = some ad → w'.heap.size ≤ ad.block := by
    have hn43 : n2 = n1 := by rw [hn2.dig.len, hd1.len, signed_abs]
    rcases ha2 with h | h
    · exact .inl h
    · rcases hf1 with h' | h'
      · exact .inl (hn43.trans h')
      · exact .inr fun ad e => h' ad (h ▸ e)
  obtain ⟨hbx, hN, hBB⟩ := num_store (cap := c2) bC2 (Nat.le_refl _) hB2 hn2 (hfq.imp id fun h ad e => by have := h ad e; omega)
  have hN' := hide hN
  clear hN
  obtain ⟨q0, q1, -, -⟩ := hbx
  obtain ⟨r0, r1, z0, z1⟩ := bC2
  go_wp2
  exact bodyPost_ret (v := .tuple #[.agg #[.bool s2, .slice a2 n2 c2], .bool true]) (by simp [results, Tryz.results21, go_sem, q0, q1]) rfl ⟨_, _, _, _, rfl, hN'.out, hfq.imp id fun h ad e => Nat.le_trans hB0.size (h ad e), hBB⟩

set_option maxRecDepth 100000 in
set_option maxHeartbeats 2000000 in
theorem parse_007 (w : World) : Calls Tryz.prog 21 #[.string ⟨#[48, 48, 55]⟩] w fun e w' => e = .returned (.tuple #[.agg #[.bool false, .slice none 0 0], .bool false]) ∧ Below w.heap.size w w' := by
  go_enter Tryz.func21, Tryz.ntmps21
  go_wp2_with (go_at_call 55; refine (cut007 _).mono ?_; rintro e w' ⟨rfl, rfl⟩)
  have bC : Box2 (w.alloc (Obj.cells #[Value.bool false, Value.slice none 0 0] 27)) w.heap.size (.bool false) (.slice none 0 0) := Box2.new _ _ _ _
  have hB0 : Below w.heap.size w (w.alloc (Obj.cells #[Value.bool false, Value.slice none 0 0] 27)) := (Below.refl _ w).alloc (Nat.le_refl _) _
  exact bodyPost_ret (v := .tuple #[.agg #[.bool false, .slice none 0 0], .bool false]) (by simp [results, Tryz.results21, go_sem]) rfl ⟨rfl, hB0⟩

set_option maxRecDepth 100000 in
set_option maxHeartbeats 2000000 in
theorem parse_m0 (w : World) : Calls Tryz.prog 21 #[.string ⟨#[45, 48]⟩] w fun e w' => e = .returned (.tuple #[.agg #[.bool false, .slice none 0 0], .bool false]) ∧ Below w.heap.size w w' := by
  go_enter Tryz.func21, Tryz.ntmps21
  go_wp2_with (go_at_call 55; refine (cut0 _).mono ?_; rintro e w' ⟨rfl, rfl⟩)
  have bC : Box2 (w.alloc (Obj.cells #[Value.bool false, Value.slice none 0 0] 27)) w.heap.size (.bool false) (.slice none 0 0) := Box2.new _ _ _ _
  have hB0 : Below w.heap.size w (w.alloc (Obj.cells #[Value.bool false, Value.slice none 0 0] 27)) := (Below.refl _ w).alloc (Nat.le_refl _) _
  exact bodyPost_ret (v := .tuple #[.agg #[.bool false, .slice none 0 0], .bool false]) (by simp [results, Tryz.results21, go_sem]) rfl ⟨rfl, hB0⟩
end Go.Proofs.YtmpdeiopdempcaaGreatDoor
