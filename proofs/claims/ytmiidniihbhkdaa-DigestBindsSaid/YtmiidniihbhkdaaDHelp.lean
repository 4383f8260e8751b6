/- The laws' helpers: short, a change, a list. -/
import Derived.Test.YtmiidniihbhkdaaDSanity
import Derived.BigRegion
import Derived.RegionTactic
import Derived.Deep.QuietTactic
import Derived.BigQuiet
import Derived.WideShapes
import Derived.Lib.AtoiErrMem
import Derived.Lib.ConvBytes
import Derived.Outline
namespace Go.Proofs.Ytmiidniihbhkdaa
open Go.RowKit

theorem bs_inj {a b : ByteArray} (h : bs a = bs b) : a = b := Go.WideShapes.bytes_inj h
theorem extract_take (s : ByteArray) (n : Nat) : s.extract 0 n = ⟨((bs s).take n).toArray⟩ := bs_inj (by rw [bs_str]; simp [bs])
theorem take_min (s : ByteArray) (n : Nat) : (bs s).take (min s.size n) = (bs s).take n := by
  rcases Nat.le_total s.size n with h | h
  · rw [Nat.min_eq_left h, List.take_of_length_le (by rw [bs_len]; omega), List.take_of_length_le (by rw [bs_len]; omega)]
  · rw [Nat.min_eq_right h]
theorem min_cast (n m : Nat) : (min (n : Int) (m : Int)).toNat = min n m := by omega

set_option maxRecDepth 100000 in
set_option maxHeartbeats 1000000 in
theorem short_any (s : ByteArray) (hs : s.size ≤ 9223372036854775807) (w : World) :
    Calls Try.prog 10 #[.string s] w fun e w' => e = .returned (str ((bs s).take 60)) ∧ w = w' := by
  have h60 : (min (s.size : Int) 60).toNat = min s.size 60 := min_cast s.size 60
  have HE := hide h60
  clear h60
  go_enter Try.func10, Try.ntmps10
  go_wp2
  go_ret
  exact ⟨congrArg (fun b => Ending.returned (.string b)) (by rw [HE.out, extract_take, take_min]), rfl⟩

theorem addr_add (b j : Nat) : (⟨b, 0, none⟩ : Addr).add j = ⟨b, j, none⟩ := by
  rcases Nat.eq_zero_or_pos j with rfl | hp
  · rfl
  · simp [Addr.add, Nat.ne_of_gt hp]
theorem conv_bytes (W : World) (s : ByteArray) : ∃ cap W1, (convert 9 40 (.string s)).run Try.prog W = .ok (.slice (some ⟨W.heap.size, 0, none⟩) s.size cap) W1 ∧
    (∀ j, j < s.size → W1.cell? ⟨W.heap.size, j, none⟩ = some (.int .u8 (((bs s).getD j 0).toNat : Int))) ∧ (∀ j, j < s.size → W1.frozen? ⟨W.heap.size, j, none⟩ = false) ∧ Below W.heap.size W W1 ∧ W.heap.size < W1.heap.size := by
  refine ⟨_, _, Lib.run_convert_string_bytes W 9 40 5 s Try.underlying9 Try.underlying40 Try.underlying5, fun j hj => Lib.bytesWorld_cell W _ s j hj, fun j hj => ?_, Lib.bytesWorld_below _ _ _, by rw [Lib.bytesWorld_size]; omega⟩
  have hsz : s.size ≤ (Lib.bytesCells W 5 s).size := by simp [Lib.bytesCells]
  simp only [World.frozen?, Lib.bytesWorld_at_new]
  simp
  omega

/-- what a change makes of a string -/
def chg (at' by' : Nat) (tail s : List UInt8) : List UInt8 := s.set (at' % s.length) (s.getD (at' % s.length) 0 + UInt8.ofNat by') ++ tail.take 4

set_option maxRecDepth 100000 in
set_option maxHeartbeats 1000000 in
theorem of_change (i b : Nat) (hi : i < 256) (hb : b < 256) (t s : ByteArray) (ht : t.size ≤ 9223372036854775807) (hs : s.size ≤ 1000) (w : World) :
    Calls Try.prog 11 #[.agg #[.int .u8 (i : Int), .int .u8 (b : Int), .string t], .string s] w fun e w' => e = .returned (str (chg i b (bs t) (bs s))) ∧ Below w.heap.size w w' := by
  obtain ⟨cap, W1, hcv, hcell, hfree, hB, hlt⟩ := conv_bytes (w.alloc (.cells #[.int .u8 (i : Int), .int .u8 (b : Int), .string t] 23)) s
  have hB0 : Below w.heap.size w W1 := ((Below.refl _ w).alloc (Nat.le_refl _) _).trans (hB.mono (by simp))
  have r0 : W1.cell? ⟨w.heap.size, 0, none⟩ = some (.int .u8 (i : Int)) := (hB.cell (p := ⟨w.heap.size, 0, none⟩) (by simp)).trans (by simp [go_sem])
  have r1 : W1.cell? ⟨w.heap.size, 1, none⟩ = some (.int .u8 (b : Int)) := (hB.cell (p := ⟨w.heap.size, 1, none⟩) (by simp)).trans (by simp [go_sem])
  have r2 : W1.cell? ⟨w.heap.size, 2, none⟩ = some (.string t) := (hB.cell (p := ⟨w.heap.size, 2, none⟩) (by simp)).trans (by simp [go_sem])
  rw [World.size_alloc] at hcv hcell hfree hlt
  clear hB
  by_cases h0 : 0 < s.size
  · have hr : i % s.size < s.size := Nat.mod_lt _ h0
    have hc := hcell _ hr
    have hf := hfree _ hr
    have hz : ((s.size : Int) == 0) = false := by rw [beq_eq_false_iff_ne]; omega
    have hg : ((0 : Int) < (s.size : Int)) := by omega
    have HC := hide hcell
    clear hcell hfree
    go_enter Try.func11, Try.ntmps11
    go_wp2
    go_region
    have hB2 : Below w.heap.size w (W1.setCell ⟨w.heap.size + 1, i % s.size, none⟩ (.int .u8 ((((bs s)[i % s.size]?.getD 0).toNat + (b : Int)) % 256))).drew := (hB0.setCell (p := ⟨w.heap.size + 1, i % s.size, none⟩) (by simp) _).drew
    have hcells : ∀ j (hj : j < ((bs s).set (i % s.size) ((bs s).getD (i % s.size) 0 + UInt8.ofNat b)).length), (W1.setCell ⟨w.heap.size + 1, i % s.size, none⟩ (.int .u8 ((((bs s)[i % s.size]?.getD 0).toNat + (b : Int)) % 256))).drew.cell? ((⟨w.heap.size + 1, 0, none⟩ : Addr).add j) = some (.int .u8 ((((bs s).set (i % s.size) ((bs s).getD (i % s.size) 0 + UInt8.ofNat b))[j]).toNat : Int)) := by
      intro j hj
      rw [List.length_set, bs_len] at hj
      rw [World.cell?_drew, show (⟨w.heap.size + 1, 0, none⟩ : Addr).add j = ⟨w.heap.size + 1, j, none⟩ from addr_add _ _, cell_put, List.getElem_set]
      by_cases e : j = i % s.size
      · rw [if_pos ⟨e, by rw [HC.out _ hr]; rfl⟩, if_pos e.symm, List.getD_eq_getElem?_getD, UInt8.toNat_add, UInt8.toNat_ofNat']
        congr 2
        omega
      · rw [if_neg (fun h => e h.1), if_neg (fun h => e h.symm), HC.out j hj, List.getD_eq_getElem?_getD, List.getElem?_eq_getElem (by rw [bs_len]; exact hj)]
        rfl
    have r2' : (W1.setCell ⟨w.heap.size + 1, i % s.size, none⟩ (.int .u8 ((((bs s)[i % s.size]?.getD 0).toNat + (b : Int)) % 256))).drew.cell? ⟨w.heap.size, 2, none⟩ = some (.string t) := by
      rw [World.cell?_drew, cell_setCell_ne _ _ _ _ (fun e => by have := congrArg Addr.block e; simp at this) rfl rfl]; exact r2
    clear r0 r1 r2 hc hf hcv hz HC
    generalize (W1.setCell ⟨w.heap.size + 1, i % s.size, none⟩ (.int .u8 ((((bs s)[i % s.size]?.getD 0).toNat + (b : Int)) % 256))).drew = W2 at hB2 hcells r2' ⊢
    have hcv2 := run_convert_bytes_back (P := Try.prog) W2.drew 40 9 5 ⟨w.heap.size + 1, 0, none⟩ cap _ Try.underlying40 Try.underlying5 Try.underlying9 (fun j hj => (World.cell?_drew _ _).trans (hcells j hj))
    rw [List.length_set, bs_len] at hcv2
    clear hcells
    obtain ⟨X, hX⟩ : ∃ X : ByteArray, X = ⟨((bs s).set (i % s.size) ((bs s).getD (i % s.size) 0 + UInt8.ofNat b)).toArray⟩ := ⟨_, rfl⟩
    rw [← hX] at hcv2
    have hXs : X.size = s.size := by rw [hX, size_mk, List.length_set, bs_len]
    have h4 : (min (t.size : Int) 4).toNat = min t.size 4 := min_cast t.size 4
    obtain ⟨Y, hY⟩ : ∃ Y, t.extract 0 (min (t.size : Int) 4).toNat = Y := ⟨_, rfl⟩
    have hYt : Y = ⟨((bs t).take 4).toArray⟩ := by rw [← hY, h4, extract_take, take_min]
    have hYs : Y.size ≤ 4 := by rw [hYt, size_mk, List.length_take]; omega
    have hadd : ∀ W : World, (Op.stringOp .add X Y).run Try.prog W = .ok (.string (X ++ Y)) W := fun W => run_string_add_sum W X Y (by omega)
    have HX := hide hX
    have HYt := hide hYt
    clear hX hXs h4 hYt hYs
    go_wp2
    go_region
    go_wp2
    go_ret
    exact ⟨congrArg (fun b => Ending.returned (.string b)) (by rw [HX.out, HYt.out, mk_append, chg, bs_len]), hB2.drew⟩
  · have hs0 : s.size = 0 := by omega
    have hl0 : bs s = [] := List.eq_nil_of_length_eq_zero (by rw [bs_len]; exact hs0)
    obtain rfl : s = ⟨#[]⟩ := bs_inj hl0
    have hcv2 := run_convert_bytes_back (P := Try.prog) W1.drew 40 9 5 ⟨w.heap.size + 1, 0, none⟩ cap [] Try.underlying40 Try.underlying5 Try.underlying9 (fun j hj => absurd hj (by simp))
    rw [List.length_nil] at hcv2
    have hX : (⟨#[]⟩ : ByteArray) = ⟨([] : List UInt8).toArray⟩ := rfl
    have h4 : (min (t.size : Int) 4).toNat = min t.size 4 := min_cast t.size 4
    obtain ⟨Y, hY⟩ : ∃ Y, t.extract 0 (min (t.size : Int) 4).toNat = Y := ⟨_, rfl⟩
    have hYt : Y = ⟨((bs t).take 4).toArray⟩ := by rw [← hY, h4, extract_take, take_min]
    have hYs : Y.size ≤ 4 := by rw [hYt, size_mk, List.length_take]; omega
    have hadd : ∀ W : World, (Op.stringOp .add ⟨#[]⟩ Y).run Try.prog W = .ok (.string (⟨#[]⟩ ++ Y)) W := fun W => run_string_add_sum W ⟨#[]⟩ Y (by have : (⟨#[]⟩ : ByteArray).size = 0 := rfl; omega)
    have HYt := hide hYt
    have hsz : (⟨#[]⟩ : ByteArray).size = 0 := rfl
    clear h4 hYt hYs hX hcell hfree hl0 hs0 h0
    go_enter Try.func11, Try.ntmps11
    go_wp2
    go_region
    go_wp2
    go_ret
    exact ⟨congrArg (fun b => Ending.returned (.string b)) (by rw [HYt.out]; rfl), hB0.drew⟩
end Go.Proofs.Ytmiidniihbhkdaa
