/- The reference's Made. -/
import Derived.Test.YtmpdeiopdempcaaGreatDoorRefA
namespace Go.Proofs.YtmpdeiopdempcaaGreatDoor
open Go.RowKit Go.Shelf

/-- the ints of a slice -/
def Ints (w : World) (a : Option Addr) (L : Nat) (g : Nat → Int) : Prop := L = 0 ∨ ∃ b off, a = some ⟨b, off, none⟩ ∧ ∀ j, j < L → w.cell? ⟨b, off + j, none⟩ = some (.int .i64 (g j))
theorem Ints.below {w w' : World} {a : Option Addr} {L : Nat} {g : Nat → Int} (h : Ints w a L g) (t : Below w.heap.size w w') : Ints w' a L g := by
  rcases h with h | ⟨b, off, e, hc⟩
  · exact .inl h
  · exact .inr ⟨b, off, e, fun j hj => (t.cell (p := ⟨b, off + j, none⟩) (lt_of_cell (hc j hj))).trans (hc j hj)⟩
/-- the digits that Made takes -/
def madeF (g : Nat → Int) : Nat → Nat := fun j => (g (j + 1) % 4294967296).toNat
theorem madeF_lt (g : Nat → Int) (j : Nat) : madeF g j < 4294967296 := by unfold madeF; omega
theorem madeF_cast (g : Nat → Int) (j : Nat) : ((madeF g j : Nat) : Int) = g (j + 1) % 4294967296 := by unfold madeF; omega
theorem digVals_succ (f : Nat → Nat) (k : Nat) : digVals f (k + 1) = digVals f k ++ [.int .u32 ((f k : Nat) : Int)] := by simp [digVals, List.range_succ]

theorem owns_dig {w : World} {base : Nat} {e : TypeId} {gv : Value} {k : Nat} {f : Nat → Nat} (h : w.ownsRow base e 1 gv k (digVals f k)) : ∃ a c, gv = .slice a k c ∧ k ≤ c ∧ Dig w a k f := by
  rcases h.2 with ⟨hv, h0⟩ | ⟨g, cap, cur, hv, hb, hob, hc, _⟩
  · exact ⟨none, 0, by rw [hv, h0], by omega, .inl h0⟩
  · refine ⟨some ⟨g, 0, none⟩, cap, hv, hc, .inr ⟨g, 0, rfl, fun j hj => ?_⟩⟩
    have := h.cells (g := g) (by rw [hv]; rfl) j (.int .u32 ((f j : Nat) : Int)) (digVals_get f hj)
    rw [← this]; congr 1; unfold Addr.add; split <;> simp_all
/-- what Made hands back -/
def MadePost (w : World) (e : Ending) (w' : World) : Prop :=
  ∃ (z : Int) (s : Bool) (a : Option Addr) (n c : Nat), e = .returned (.agg #[.bool s, .slice a n c]) ∧ IsN w' s a n z ∧ n ≤ 6 ∧ (n = 0 ∨ Fresh w a) ∧ Below w.heap.size w w'

set_option maxRecDepth 100000 in
set_option maxHeartbeats 4000000 in
theorem made_any (ao : Option Addr) (L cap : Nat) (g : Nat → Int) (hL : L ≤ 9223372036854775807) (w : World) (hl : Ints w ao L g) :
    Calls Tryz.prog 10 #[.slice ao L cap] w (MadePost w) := by
  obtain ⟨i0, hi, hz0, hz1, hz2⟩ := info_parts info_u32
  have HI := hide hi
  have HZ := hide (And.intro hz0 (And.intro hz1 hz2))
  have HLI := hide hl
  clear hi hz0 hz1 hz2
  go_enter Tryz.func10, Tryz.ntmps10
  go_wp2_with fail
  obtain ⟨W0, hW0⟩ : ∃ W0, w.alloc (Obj.cells #[Value.bool false, Value.slice none 0 0] 27) = W0 := ⟨_, rfl⟩
  have bC : Box2 W0 w.heap.size (.bool false) (.slice none 0 0) := by rw [← hW0]; exact Box2.new _ _ _ _
  have hB0 : Below w.heap.size w W0 := by rw [← hW0]; exact (Below.refl _ w).alloc (Nat.le_refl _) _
  rw [hW0]
  clear hW0
  go_loopw [3, 4] (fun dv i wr => ∃ k : Nat, k < 7 ∧ (k = 0 ∨ k < L) ∧ i = .int .i64 ((k + 1 : Nat) : Int) ∧ wr.ownsRow W0.heap.size 52 1 dv k (digVals (madeF g) k) ∧ Below W0.heap.size W0 wr)
    (fun _ i _ => (8 - intOf i).toNat)
  case atStart => exact ⟨0, by decide, .inl rfl, rfl, World.ownsRow_nil _ _ _ _, Below.refl _ _⟩
  case round =>
    obtain ⟨k, hk, hkL, rfl, ho, hr⟩ := hrel
    have HO := hide ho
    have hBr := hB0.trans (hr.mono hB0.size)
    clear ho
    by_cases hgo : k + 1 < L ∧ k < 6
    · obtain ⟨hg1, hg2⟩ := hgo
      obtain ⟨b, off, rfl, hc⟩ : ∃ b off, ao = some ⟨b, off, none⟩ ∧ ∀ j, j < L → wr.cell? ⟨b, off + j, none⟩ = some (.int .i64 (g j)) := by
        rcases HLI.out.below hBr with h | h
        · omega
        · exact h
      have hx := hc (k + 1) hg1
      have hk1 : ((k + 1 : Nat) : Int) < L := by omega
      have hk7 : ((k + 1 : Nat) : Int) < 7 := by omega
      clear hc
      have hm1 : madeF g k < 4294967296 := madeF_lt g k
      have hmc : IntKind.u32.wrap (g (k + 1)) = ((madeF g k : Nat) : Int) := by rw [madeF_cast]; exact IntKind.wrap_u32 _
      have hmc' : g (k + 1) % 4294967296 = ((madeF g k : Nat) : Int) := (madeF_cast g k).symm
      have HSZ := hide hr.size
      go_wp2_with (at_builtin; refine wpList_append_own _ rfl _ _ 25 rfl W0.heap.size 52 i0 (.int .u32 0) 1 4 Tryz.underlying25 HI.out HZ.out.1 HZ.out.2.1 HZ.out.2.2 rfl (by decide) _ _ _ rfl (HO.out.alloc _) ⟨wr.heap.size, 0, none⟩ 1 1 [.int .u32 ((madeF g k : Nat) : Int)] rfl rfl ?c1 ?c2 ?c3 ?c4 ?c5 ?_)
      case c1 =>
        intro j u hj
        match j, hj with
        | 0, hj => simp at hj; subst hj; simp [Addr.add]
      case c2 => intro u hu; simp at hu; subst hu; rfl
      case c3 => unfold maxLen; omega
      case c4 => omega
      case c5 => have := HSZ.out; simp; omega
      intro v' w2 hown hgrow _
      have hb2 : Below W0.heap.size W0 w2 := (hr.alloc HSZ.out _).grown hgrow (by rw [World.size_alloc]; have := HSZ.out; omega) (fun k' hk' => (HO.out.lt k' hk').1)
      have HO2 := hide hown
      clear hown hgrow hx hmc hmc'
      go_wp2_with fail
      go_roundw
      case rel => exact ⟨k + 1, by omega, .inr (by omega), by go_num, by rw [digVals_succ]; exact HO2.out, hb2⟩
      case measure => simp [intOf]; omega
    · obtain ⟨a3, c3, rfl, hcap3, hd3⟩ := owns_dig HO.out
      have hle : ¬ (k + 1 < L ∧ k < 6) := hgo
      have hfit : dlen (valF (madeF g) k) ≤ 6 := Nat.le_trans (dlen_le_iff.2 (valF_lt fun j _ => madeF_lt g j)) (by omega)
      have hcall := fun B => rsigned_any B a3 k c3 (madeF g) (by omega) hcap3 (fun j _ => madeF_lt g j) wr hd3 (by omega)
      have bCr := bC.below hr bC.lt
      have HCL := hide hcall
      have HFT := hide hfit
      clear hcall hfit hgo hd3
      have htail : ∀ (B : Bool) (e : Ending) (w' : World), NumPost wr (signed B (valF (madeF g) k)) e w' → ∃ (s : Bool) (a : Option Addr) (n c : Nat), e = .returned (.tuple #[.agg #[.bool s, .slice a n c], .bool true]) ∧
          IsN w' s a n (signed B (valF (madeF g) k)) ∧ n ≤ 6 ∧ (n = 0 ∨ Fresh wr a) ∧ Below wr.heap.size wr w' := by
        rintro B e w' ⟨s, a, n, c, rfl, h1, h2, h3⟩
        exact ⟨s, a, n, c, rfl, h1, by rw [h1.dig.len, signed_abs]; exact HFT.out, h2, h3⟩
      have HTL := hide htail
      clear htail
      by_cases hL0 : L = 0
      · subst hL0
        go_wp2_with fail
        refine (HCL.out _).mono ?_
        intro e w' hpost
        obtain ⟨s, a, n, c, rfl, hN, hn6, hf, hb⟩ := HTL.out _ e w' hpost
        clear hpost
        have bC' := bCr.below hb bCr.lt
        have hBw : Below w.heap.size w w' := hBr.trans (hb.mono hBr.size)
        have hlt := bC'.lt
        have hltr := bCr.lt
        obtain ⟨hbx0, hN0, hB0'⟩ := num_store (cap := c) bC' (Nat.le_refl _) hBw hN (hf.imp id fun h ad e => by have := h ad e; omega)
        have hal := below_alloc' ((w'.setCell ⟨w.heap.size, 0, none⟩ (.bool s)).setCell ⟨w.heap.size, 1, none⟩ (.slice a n c)) (Obj.cells #[.bool s, .slice a n c] 27)
        have hNf := hN0.below hal
        have hBf := hB0'.trans (hal.mono hB0'.size)
        obtain ⟨q0, q1, -, -⟩ := hbx0.below hal hbx0.lt
        have Q := hide (And.intro q0 (And.intro q1 (And.intro hNf (And.intro hBf hf))))
        have hsr := hBr.size
        clear q0 q1 hNf hBf hf hbx0 hN0 hB0' hal
        obtain ⟨r0, r1, y0, y1⟩ := bC'
        go_wp2
        obtain ⟨q0, q1, hNf, hBf, hf⟩ := Q.out
        exact bodyPost_ret (v := .agg #[.bool s, .slice a n c]) (by simp [results, Tryz.results10, go_sem, q0, q1]) rfl ⟨_, s, a, n, c, rfl, hNf, hn6, hf.imp id fun h ad e => Nat.le_trans hsr (h ad e), hBf⟩
      · obtain ⟨b, off, rfl, hc⟩ : ∃ b off, ao = some ⟨b, off, none⟩ ∧ ∀ j, j < L → wr.cell? ⟨b, off + j, none⟩ = some (.int .i64 (g j)) := by
          rcases HLI.out.below hBr with h | h
          · exact absurd h hL0
          · exact h
        have hx : wr.cell? ⟨b, off, none⟩ = some (.int .i64 (g 0)) := hc 0 (by omega)
        have hL1 : (0 : Int) < L := by omega
        have hL2 : 0 < L := by omega
        clear hc
        obtain ⟨B, hB⟩ : ∃ B, ((g 0).tmod 2 != 0) = B := ⟨_, rfl⟩
        by_cases hk6 : k < 6
        · have hk1 : ¬ ((k : Int) + 1 < L) := by omega
          go_wp2_with fail
          refine (HCL.out _).mono ?_
          intro e w' hpost
          obtain ⟨s, a, n, c, rfl, hN, hn6, hf, hb⟩ := HTL.out _ e w' hpost
          clear hpost
          have bC' := bCr.below hb bCr.lt
          have hBw : Below w.heap.size w w' := hBr.trans (hb.mono hBr.size)
          have hlt := bC'.lt
          have hltr := bCr.lt
          obtain ⟨hbx0, hN0, hB0'⟩ := num_store (cap := c) bC' (Nat.le_refl _) hBw hN (hf.imp id fun h ad e => by have := h ad e; omega)
          have hal := below_alloc' ((w'.setCell ⟨w.heap.size, 0, none⟩ (.bool s)).setCell ⟨w.heap.size, 1, none⟩ (.slice a n c)) (Obj.cells #[.bool s, .slice a n c] 27)
          have hNf := hN0.below hal
          have hBf := hB0'.trans (hal.mono hB0'.size)
          obtain ⟨q0, q1, -, -⟩ := hbx0.below hal hbx0.lt
          have Q := hide (And.intro q0 (And.intro q1 (And.intro hNf (And.intro hBf hf))))
          have hsr := hBr.size
          clear q0 q1 hNf hBf hf hbx0 hN0 hB0' hal
          obtain ⟨r0, r1, y0, y1⟩ := bC'
          go_wp2
          obtain ⟨q0, q1, hNf, hBf, hf⟩ := Q.out
          exact bodyPost_ret (v := .agg #[.bool s, .slice a n c]) (by simp [results, Tryz.results10, go_sem, q0, q1]) rfl ⟨_, s, a, n, c, rfl, hNf, hn6, hf.imp id fun h ad e => Nat.le_trans hsr (h ad e), hBf⟩
        · have hk1 : ¬ ((k : Int) + 1 < 7) := by omega
          go_wp2_with fail
          all_goals (
            refine (HCL.out _).mono ?_
            intro e w' hpost
            obtain ⟨s, a, n, c, rfl, hN, hn6, hf, hb⟩ := HTL.out _ e w' hpost
            clear hpost
            have bC' := bCr.below hb bCr.lt
            have hBw : Below w.heap.size w w' := hBr.trans (hb.mono hBr.size)
            have hlt := bC'.lt
            have hltr := bCr.lt
            obtain ⟨hbx0, hN0, hB0'⟩ := num_store (cap := c) bC' (Nat.le_refl _) hBw hN (hf.imp id fun h ad e => by have := h ad e; omega)
            have hal := below_alloc' ((w'.setCell ⟨w.heap.size, 0, none⟩ (.bool s)).setCell ⟨w.heap.size, 1, none⟩ (.slice a n c)) (Obj.cells #[.bool s, .slice a n c] 27)
            have hNf := hN0.below hal
            have hBf := hB0'.trans (hal.mono hB0'.size)
            obtain ⟨q0, q1, -, -⟩ := hbx0.below hal hbx0.lt
            have Q := hide (And.intro q0 (And.intro q1 (And.intro hNf (And.intro hBf hf))))
            have hsr := hBr.size
            clear q0 q1 hNf hBf hf hbx0 hN0 hB0' hal
            obtain ⟨r0, r1, y0, y1⟩ := bC'
            go_wp2
            obtain ⟨q0, q1, hNf, hBf, hf⟩ := Q.out
            exact bodyPost_ret (v := .agg #[.bool s, .slice a n c]) (by simp [results, Tryz.results10, go_sem, q0, q1]) rfl ⟨_, s, a, n, c, rfl, hNf, hn6, hf.imp id fun h ad e => Nat.le_trans hsr (h ad e), hBf⟩)
end Go.Proofs.YtmpdeiopdempcaaGreatDoor
