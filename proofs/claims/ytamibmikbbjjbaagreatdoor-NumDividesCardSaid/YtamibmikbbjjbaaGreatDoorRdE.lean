/- signed, Made and raised with the capacity of what they hand back. -/
import Derived.Test.YtamibmikbbjjbaaGreatDoorPRf
import Derived.Laws.OwnMore
import Derived.Laws.AppendOwn
namespace Go.Proofs.YtamibmikbbjjbaaGreatDoor
open Go.RowKit Go.Shelf

/-- a Num that fits its slice, handed back with true -/
def CapPost (w : World) (z : Int) (e : Ending) (w' : World) : Prop :=
  ∃ (s : Bool) (a : Option Addr) (n cap : Nat), e = .returned (.tuple #[.agg #[.bool s, .slice a n cap], .bool true]) ∧ IsN w' s a n z ∧ (n = 0 ∨ Fresh w a) ∧ Below w.heap.size w w' ∧ n ≤ cap

set_option maxRecDepth 100000 in
set_option maxHeartbeats 2000000 in
theorem rsigned_cap (neg : Bool) (a : Option Addr) (L cap : Nat) (f : Nat → Nat) (hL : L ≤ 1099511627776) (hcap : L ≤ cap) (hf : ∀ j, j < L → f j < 4294967296) (w : World) (hd : Dig w a L f) (hfit : dlen (valF f L) ≤ 64) :
    Calls Tryz.prog 73 #[.bool neg, .slice a L cap] w (CapPost w (signed neg (valF f L))) := by
  obtain ⟨i0, hi, hz0, hz1, hz2⟩ := info_parts info_u32
  have HI := hide hi
  have HZ := hide (And.intro hz0 (And.intro hz1 hz2))
  have HF := hide hf
  have bC : Box2 (w.alloc (Obj.cells #[Value.bool false, Value.slice none 0 0] 26)) w.heap.size (.bool false) (.slice none 0 0) := Box2.new _ _ _ _
  have hB0 : Below w.heap.size w (w.alloc (Obj.cells #[Value.bool false, Value.slice none 0 0] 26)) := (Below.refl _ w).alloc (Nat.le_refl _) _
  clear hi hz0 hz1 hz2 hf
  go_enter Tryz.func73, Tryz.ntmps73
  go_wp2_with fail
  obtain ⟨W0, hW0⟩ : ∃ W0, w.alloc (Obj.cells #[Value.bool false, Value.slice none 0 0] 26) = W0 := ⟨_, rfl⟩
  rw [hW0] at bC hB0 ⊢
  clear hW0
  have hd0 := hd.below hB0
  refine (rtrim_any a L cap f hL hcap HF.out W0 hd0).mono ?_
  rintro e w1 ⟨a1, c1, rfl, ha1, hc1, rfl⟩
  obtain ⟨V, hV⟩ : ∃ V, valF f L = V := ⟨_, rfl⟩
  rw [hV] at ha1 hc1 hfit
  have HV := hide hV
  obtain ⟨n, hn⟩ : ∃ n, dlen V = n := ⟨_, rfl⟩
  rw [hV, hn]
  rw [hn] at ha1 hc1 hfit
  have HN := hide hn
  clear hV hn
  by_cases h0 : n = 0
  · subst h0
    have hV0 : V = 0 := dlen_eq_zero.1 HN.out
    have HV0 := hide hV0
    clear hV0
    have bC0 := bC
    obtain ⟨c0, c1', z0, z1⟩ := bC
    have kC := bC0.set (.bool false) (.slice none 0 0)
    have kB := below_set2 hB0 (B := w.heap.size) (Nat.le_refl _) (.bool false) (.slice none 0 0)
    obtain ⟨q0, q1, -, -⟩ := kC
    have Q := hide (And.intro q0 q1)
    clear q0 q1
    go_wp2
    obtain ⟨q0, q1⟩ := Q.out
    refine bodyPost_ret (v := .tuple #[.agg #[.bool false, .slice none 0 0], .bool true]) (by simp [results, Tryz.results73, go_sem, q0, q1]) rfl ⟨_, _, _, _, rfl, ?_, .inl rfl, kB, Nat.le_refl _⟩
    rw [HV.out, HV0.out]
    exact ⟨by simp [signed], ⟨by simp [signed, dlen_zero], .inl rfl⟩⟩
  · obtain rfl : a1 = a := by rcases ha1 with h | h; exact h; exact absurd h h0
    have hnL : n ≤ L := by rw [← HN.out, ← HV.out]; exact dlen_le_iff.2 (valF_lt HF.out)
    obtain ⟨b, off, rfl, hc⟩ := (hd0.mono hnL).at (by omega)
    have hnb : ((n : Int) == 0) = false := by simp; omega
    have HC := hide hc
    have bC0 := bC
    have hbw := bC.lt
    obtain ⟨c0, c1', z0, z1⟩ := bC
    clear hc hd0 hd ha1
    go_wp2_with (at_builtin; refine wpList_append_own _ rfl _ _ 24 rfl w1.heap.size 80 i0 (.int .u32 0) 1 4 Tryz.underlying24 HI.out HZ.out.1 HZ.out.2.1 HZ.out.2.2 rfl (by decide) (.slice (some ⟨w1.heap.size, 0, none⟩) 0 0) 0 [] rfl (World.ownsRow_made w1 #[] 0 (Nat.le_refl _) (by unfold maxLen; omega) rfl) ⟨b, off, none⟩ n c1 (digVals f n) rfl (by rw [digVals_length]; omega) ?c1 (digVals_one f n) ?c3 ?c4 ?c5 ?_)
    case c1 =>
      intro j u hj
      have hjn : j < n := by have := (List.getElem?_eq_some_iff.1 hj).1; rw [digVals_length] at this; exact this
      rw [digVals_get f hjn] at hj
      cases hj
      have := (HC.out.below (below_alloc' w1 (Obj.cells #[] 80)) (.inr (by have := HC.out.lt (by omega); exact this))) j hjn
      rw [← this]; congr 1; unfold Addr.add; split <;> simp_all
    case c3 => unfold maxLen; omega
    case c4 => omega
    case c5 => simp
    intro v' w2 hown hgrow _
    obtain ⟨g, c, rfl, hg, hgc, hcg⟩ := owns_digs hown (by omega)
    have HGC : Hid (n ≤ c) := hide (by first | exact hgc | omega)
    have hbk : w2.heap[w.heap.size]? = w1.heap[w.heap.size]? := by
      rw [hgrow.block w.heap.size (by rw [World.size_alloc]; omega) (fun e => by have e' : w.heap.size = w1.heap.size := Option.some.inj e; omega), Below.heap_alloc w1 _ _ hbw]
    have bC2 : Box2 w2 w.heap.size (.bool false) (.slice none 0 0) := ⟨by rw [cell_of_block_eq hbk]; exact bC0.c0, by rw [cell_of_block_eq hbk]; exact bC0.c1, by rw [frozen_of_block_eq hbk]; exact bC0.z0, by rw [frozen_of_block_eq hbk]; exact bC0.z1⟩
    have hB2 : Below w.heap.size w w2 := (hB0.alloc hB0.size _).grown hgrow (by rw [World.size_alloc]; omega) (fun k e => by have e' : w1.heap.size = k := Option.some.inj e; omega)
    have hfn : ∀ j, j < n → f j < 4294967296 := fun j hj => HF.out j (by omega)
    have hVn : valF f n = V := by
      rw [← HV.out]
      refine (valF_drop hnL fun j h1 h2 => ?_).symm
      have h3 := dgt_valF HF.out h2
      rw [HV.out] at h3
      rw [← h3]; unfold dgt
      rw [Nat.div_eq_of_lt (Nat.lt_of_lt_of_le (lt_bp_dlen V) (bp_le (by rw [HN.out]; exact h1)))]
    have hI : IsD w2 (some ⟨g, 0, none⟩) n V := by
      refine ⟨HN.out.symm, .inr ⟨g, 0, rfl, hcg.congr fun j hj => ?_⟩⟩
      rw [← hVn, dgt_valF hfn hj]
    have hV0 : V ≠ 0 := fun e => h0 (by rw [← HN.out, e, dlen_zero])
    have hN2 : IsN w2 neg (some ⟨g, 0, none⟩) n (signed neg V) := IsN.mk' hI (fun _ => hV0)
    obtain ⟨hbx, hN, hBB⟩ := num_store (cap := c) bC2 (Nat.le_refl _) hB2 hN2 (.inr fun ad e => by cases e; show g ≠ _; omega)
    have Q := hide (And.intro hbx (And.intro hN hBB))
    obtain ⟨r0, r1, y0, y1⟩ := bC2
    clear hbx hN hBB hI hN2 hVn hfn hcg hown hgrow hnb c0 c1' z0 z1
    go_wp2
    obtain ⟨⟨q0, q1, -, -⟩, hN, hBB⟩ := Q.out
    refine bodyPost_ret (v := .tuple #[.agg #[.bool neg, .slice (some ⟨g, 0, none⟩) n c], .bool true]) (by simp [results, Tryz.results73, go_sem, q0, q1]) rfl ⟨_, _, _, _, rfl, ?_, .inr fun ad e => by cases e; show _ ≤ g; omega, hBB, HGC.out⟩
    rw [HV.out]; exact hN

/-- what Made hands back, with its capacity -/
def MadeCap (w : World) (e : Ending) (w' : World) : Prop :=
  ∃ (z : Int) (s : Bool) (a : Option Addr) (n c : Nat), e = .returned (.agg #[.bool s, .slice a n c]) ∧ IsN w' s a n z ∧ n ≤ 6 ∧ (n = 0 ∨ Fresh w a) ∧ Below w.heap.size w w' ∧ n ≤ c

set_option maxRecDepth 100000 in
set_option maxHeartbeats 4000000 in
theorem made_cap (ao : Option Addr) (L cap : Nat) (g : Nat → Int) (hL : L ≤ 9223372036854775807) (w : World) (hl : Ints w ao L g) :
    Calls Tryz.prog 14 #[.slice ao L cap] w (MadeCap w) := by
  obtain ⟨i0, hi, hz0, hz1, hz2⟩ := info_parts info_u32
  have HI := hide hi
  have HZ := hide (And.intro hz0 (And.intro hz1 hz2))
  have HLI := hide hl
  clear hi hz0 hz1 hz2
  go_enter Tryz.func14, Tryz.ntmps14
  go_wp2_with fail
  obtain ⟨W0, hW0⟩ : ∃ W0, w.alloc (Obj.cells #[Value.bool false, Value.slice none 0 0] 26) = W0 := ⟨_, rfl⟩
  have bC : Box2 W0 w.heap.size (.bool false) (.slice none 0 0) := by rw [← hW0]; exact Box2.new _ _ _ _
  have hB0 : Below w.heap.size w W0 := by rw [← hW0]; exact (Below.refl _ w).alloc (Nat.le_refl _) _
  rw [hW0]
  clear hW0
  go_loopw [3, 4] (fun dv i wr => ∃ k : Nat, k < 7 ∧ (k = 0 ∨ k < L) ∧ i = .int .i64 ((k + 1 : Nat) : Int) ∧ wr.ownsRow W0.heap.size 80 1 dv k (digVals (madeF g) k) ∧ Below W0.heap.size W0 wr)
    (fun _ i _ => (8 - intOf i).toNat)
  case atStart => exact ⟨0, by decide, .inl rfl, rfl, World.ownsRow_nil _ _ _ _, Below.refl _ _⟩
  case round =>
    obtain ⟨k, hk, hkL, rfl, ho, hr⟩ := hrel
    have HO := hide ho
    have hBr := hB0.trans (hr.mono hB0.size)
    clear ho
    by_cases hgo : k + 1 < L ∧ k < 6
    · obtain ⟨hg1, hg2⟩ := hgo
      obtain ⟨b, off, rfl, hc⟩ : ∃ b off, ao = some ⟨b, off, none⟩ ∧ ∀ j, j < L → wr.cell? ⟨b, off + j, none⟩ = some (.int .i64 (g j)) := by
        rcases HLI.out.below hBr with h | h
        · omega
        · exact h
      have hx := hc (k + 1) hg1
      have hk1 : ((k + 1 : Nat) : Int) < L := by omega
      have hk7 : ((k + 1 : Nat) : Int) < 7 := by omega
      clear hc
      have hm1 : madeF g k < 4294967296 := madeF_lt g k
      have hmc : IntKind.u32.wrap (g (k + 1)) = ((madeF g k : Nat) : Int) := by rw [madeF_cast]; exact IntKind.wrap_u32 _
      have hmc' : g (k + 1) % 4294967296 = ((madeF g k : Nat) : Int) := (madeF_cast g k).symm
      have HSZ := hide hr.size
      go_wp2_with (at_builtin; refine wpList_append_own _ rfl _ _ 24 rfl W0.heap.size 80 i0 (.int .u32 0) 1 4 Tryz.underlying24 HI.out HZ.out.1 HZ.out.2.1 HZ.out.2.2 rfl (by decide) _ _ _ rfl (HO.out.alloc _) ⟨wr.heap.size, 0, none⟩ 1 1 [.int .u32 ((madeF g k : Nat) : Int)] rfl rfl ?c1 ?c2 ?c3 ?c4 ?c5 ?_)
      case c1 =>
        intro j u hj
        match j, hj with
        | 0, hj => simp at hj; subst hj; simp [Addr.add]
      case c2 => intro u hu; simp at hu; subst hu; rfl
      case c3 => unfold maxLen; omega
      case c4 => omega
      case c5 => have := HSZ.out; simp; omega
      intro v' w2 hown hgrow _
      have hb2 : Below W0.heap.size W0 w2 := (hr.alloc HSZ.out _).grown hgrow (by rw [World.size_alloc]; have := HSZ.out; omega) (fun k' hk' => (HO.out.lt k' hk').1)
      have HO2 := hide hown
      clear hown hgrow hx hmc hmc'
      go_wp2_with fail
      go_roundw
      case rel => exact ⟨k + 1, by omega, .inr (by omega), by go_num, by rw [digVals_succ]; exact HO2.out, hb2⟩
      case measure => simp [intOf]; omega
    · obtain ⟨a3, c3, rfl, hcap3, hd3⟩ := owns_dig HO.out
      have hle : ¬ (k + 1 < L ∧ k < 6) := hgo
      have hfit : dlen (valF (madeF g) k) ≤ 6 := Nat.le_trans (dlen_le_iff.2 (valF_lt fun j _ => madeF_lt g j)) (by omega)
      have hcall := fun B => rsigned_cap B a3 k c3 (madeF g) (by omega) hcap3 (fun j _ => madeF_lt g j) wr hd3 (by omega)
      have bCr := bC.below hr bC.lt
      have HCL := hide hcall
      have HFT := hide hfit
      clear hcall hfit hgo hd3
      have htail : ∀ (B : Bool) (e : Ending) (w' : World), CapPost wr (signed B (valF (madeF g) k)) e w' → ∃ (s : Bool) (a : Option Addr) (n c : Nat), e = .returned (.tuple #[.agg #[.bool s, .slice a n c], .bool true]) ∧
          IsN w' s a n (signed B (valF (madeF g) k)) ∧ n ≤ 6 ∧ (n = 0 ∨ Fresh wr a) ∧ Below wr.heap.size wr w' ∧ n ≤ c := by
        rintro B e w' ⟨s, a, n, c, rfl, h1, h2, h3⟩
        exact ⟨s, a, n, c, rfl, h1, by rw [h1.dig.len, signed_abs]; exact HFT.out, h2, h3⟩
      have HTL := hide htail
      clear htail
      by_cases hL0 : L = 0
      · subst hL0
        go_wp2_with fail
        refine (HCL.out _).mono ?_
        intro e w' hpost
        obtain ⟨s, a, n, c, rfl, hN, hn6, hf, hb, hnc⟩ := HTL.out _ e w' hpost
        clear hpost
        have HNC := hide hnc
        have bC' := bCr.below hb bCr.lt
        have hBw : Below w.heap.size w w' := hBr.trans (hb.mono hBr.size)
        have hlt := bC'.lt
        have hltr := bCr.lt
        obtain ⟨hbx0, hN0, hB0'⟩ := num_store (cap := c) bC' (Nat.le_refl _) hBw hN (hf.imp id fun h ad e => by have := h ad e; omega)
        have hal := below_alloc' ((w'.setCell ⟨w.heap.size, 0, none⟩ (.bool s)).setCell ⟨w.heap.size, 1, none⟩ (.slice a n c)) (Obj.cells #[.bool s, .slice a n c] 26)
        have hNf := hN0.below hal
        have hBf := hB0'.trans (hal.mono hB0'.size)
        obtain ⟨q0, q1, -, -⟩ := hbx0.below hal hbx0.lt
        have Q := hide (And.intro q0 (And.intro q1 (And.intro hNf (And.intro hBf hf))))
        have hsr := hBr.size
        clear q0 q1 hNf hBf hf hbx0 hN0 hB0' hal
        obtain ⟨r0, r1, y0, y1⟩ := bC'
        go_wp2
        obtain ⟨q0, q1, hNf, hBf, hf⟩ := Q.out
        exact bodyPost_ret (v := .agg #[.bool s, .slice a n c]) (by simp [results, Tryz.results14, go_sem, q0, q1]) rfl ⟨_, s, a, n, c, rfl, hNf, hn6, hf.imp id fun h ad e => Nat.le_trans hsr (h ad e), hBf, HNC.out⟩
      · obtain ⟨b, off, rfl, hc⟩ : ∃ b off, ao = some ⟨b, off, none⟩ ∧ ∀ j, j < L → wr.cell? ⟨b, off + j, none⟩ = some (.int .i64 (g j)) := by
          rcases HLI.out.below hBr with h | h
          · exact absurd h hL0
          · exact h
        have hx : wr.cell? ⟨b, off, none⟩ = some (.int .i64 (g 0)) := hc 0 (by omega)
        have hL1 : (0 : Int) < L := by omega
        have hL2 : 0 < L := by omega
        clear hc
        obtain ⟨B, hB⟩ : ∃ B, ((g 0).tmod 2 != 0) = B := ⟨_, rfl⟩
        by_cases hk6 : k < 6
        · have hk1 : ¬ ((k : Int) + 1 < L) := by omega
          go_wp2_with fail
          refine (HCL.out _).mono ?_
          intro e w' hpost
          obtain ⟨s, a, n, c, rfl, hN, hn6, hf, hb, hnc⟩ := HTL.out _ e w' hpost
          clear hpost
          have HNC := hide hnc
          have bC' := bCr.below hb bCr.lt
          have hBw : Below w.heap.size w w' := hBr.trans (hb.mono hBr.size)
          have hlt := bC'.lt
          have hltr := bCr.lt
          obtain ⟨hbx0, hN0, hB0'⟩ := num_store (cap := c) bC' (Nat.le_refl _) hBw hN (hf.imp id fun h ad e => by have := h ad e; omega)
          have hal := below_alloc' ((w'.setCell ⟨w.heap.size, 0, none⟩ (.bool s)).setCell ⟨w.heap.size, 1, none⟩ (.slice a n c)) (Obj.cells #[.bool s, .slice a n c] 26)
          have hNf := hN0.below hal
          have hBf := hB0'.trans (hal.mono hB0'.size)
          obtain ⟨q0, q1, -, -⟩ := hbx0.below hal hbx0.lt
          have Q := hide (And.intro q0 (And.intro q1 (And.intro hNf (And.intro hBf hf))))
          have hsr := hBr.size
          clear q0 q1 hNf hBf hf hbx0 hN0 hB0' hal
          obtain ⟨r0, r1, y0, y1⟩ := bC'
          go_wp2
          obtain ⟨q0, q1, hNf, hBf, hf⟩ := Q.out
          exact bodyPost_ret (v := .agg #[.bool s, .slice a n c]) (by simp [results, Tryz.results14, go_sem, q0, q1]) rfl ⟨_, s, a, n, c, rfl, hNf, hn6, hf.imp id fun h ad e => Nat.le_trans hsr (h ad e), hBf, HNC.out⟩
        · have hk1 : ¬ ((k : Int) + 1 < 7) := by omega
          go_wp2_with fail
          all_goals (
            refine (HCL.out _).mono ?_
            intro e w' hpost
            obtain ⟨s, a, n, c, rfl, hN, hn6, hf, hb, hnc⟩ := HTL.out _ e w' hpost
            clear hpost
            have HNC := hide hnc
            have bC' := bCr.below hb bCr.lt
            have hBw : Below w.heap.size w w' := hBr.trans (hb.mono hBr.size)
            have hlt := bC'.lt
            have hltr := bCr.lt
            obtain ⟨hbx0, hN0, hB0'⟩ := num_store (cap := c) bC' (Nat.le_refl _) hBw hN (hf.imp id fun h ad e => by have := h ad e; omega)
            have hal := below_alloc' ((w'.setCell ⟨w.heap.size, 0, none⟩ (.bool s)).setCell ⟨w.heap.size, 1, none⟩ (.slice a n c)) (Obj.cells #[.bool s, .slice a n c] 26)
            have hNf := hN0.below hal
            have hBf := hB0'.trans (hal.mono hB0'.size)
            obtain ⟨q0, q1, -, -⟩ := hbx0.below hal hbx0.lt
            have Q := hide (And.intro q0 (And.intro q1 (And.intro hNf (And.intro hBf hf))))
            have hsr := hBr.size
            clear q0 q1 hNf hBf hf hbx0 hN0 hB0' hal
            obtain ⟨r0, r1, y0, y1⟩ := bC'
            go_wp2
            obtain ⟨q0, q1, hNf, hBf, hf⟩ := Q.out
            exact bodyPost_ret (v := .agg #[.bool s, .slice a n c]) (by simp [results, Tryz.results14, go_sem, q0, q1]) rfl ⟨_, s, a, n, c, rfl, hNf, hn6, hf.imp id fun h ad e => Nat.le_trans hsr (h ad e), hBf, HNC.out⟩)

set_option maxRecDepth 100000 in
set_option maxHeartbeats 2000000 in
theorem raised_cap_pos (s : Bool) (a : Option Addr) (n c k : Nat) (hk : k ≤ 64) (hn : 0 < n) (h6 : n ≤ 70) (w : World) (hd : Digs w a n) :
    Calls Tryz.prog 15 #[.agg #[.bool s, .slice a n c], .int .i64 (k : Int)] w fun e w' => ∃ a' m c', e = .returned (.agg #[.bool s, .slice a' m c']) ∧ Digs w' a' m ∧ Below w.heap.size w w' ∧ m ≤ c' := by
  obtain ⟨f, hdf, hf, hn0⟩ := hd
  obtain ⟨b, off, rfl, hcs⟩ := hdf.at hn
  have hn' : ((n : Int) == 0) = false := by simp; omega
  obtain ⟨i0, hi, hz0, hz1, hz2⟩ := info_parts info_u32
  have hB := below_alloc' w (Obj.cells #[Value.bool s, Value.slice (some ⟨b, off, none⟩) n c] 26)
  have hB2 := hB.trans ((below_alloc' (w.alloc (Obj.cells #[Value.bool s, Value.slice (some ⟨b, off, none⟩) n c] 26)) (Obj.cells #[Value.bool false, Value.slice none 0 0] 26)).mono hB.size)
  have bA : Box2 ((w.alloc (Obj.cells #[Value.bool s, Value.slice (some ⟨b, off, none⟩) n c] 26)).alloc (Obj.cells #[Value.bool false, Value.slice none 0 0] 26)) w.heap.size (.bool s) (.slice (some ⟨b, off, none⟩) n c) := (Box2.new w _ _ _).alloc _
  have bC : Box2 ((w.alloc (Obj.cells #[Value.bool s, Value.slice (some ⟨b, off, none⟩) n c] 26)).alloc (Obj.cells #[Value.bool false, Value.slice none 0 0] 26)) (w.heap.size + 1) (.bool false) (.slice none 0 0) := by
    have := Box2.new (w.alloc (Obj.cells #[Value.bool s, Value.slice (some ⟨b, off, none⟩) n c] 26)) (.bool false) (.slice none 0 0) 26
    rw [World.size_alloc] at this; exact this
  have HI := hide hi
  have HZ := hide (And.intro hz0 (And.intro hz1 hz2))
  have HCS := hide hcs
  have HF := hide hf
  clear hi hz0 hz1 hz2 hB hdf hcs hf
  go_enter Tryz.func15, Tryz.ntmps15
  go_wp2_with fail
  obtain ⟨W0, hW0⟩ : ∃ W0, (w.alloc (Obj.cells #[Value.bool s, Value.slice (some ⟨b, off, none⟩) n c] 26)).alloc (Obj.cells #[Value.bool false, Value.slice none 0 0] 26) = W0 := ⟨_, rfl⟩
  rw [hW0] at bA bC hB2 ⊢
  clear hW0
  have HD2 := hide (below_drewN' hB2 1)
  have HC := hide bC
  obtain ⟨a0, a1, -, -⟩ := bA
  have hlt : w.heap.size < w.heap.size + 1 := Nat.lt_succ_self _
  have hsz1 : w.heap.size + 1 < W0.heap.size := bC.lt
  refine wp_region_held_drew (S := fun w' => Below (w.heap.size + 1) W0.drew w') (by kernel_rfl) (Below.refl _ _) (fun hHeld => ?_)
  refine take_at (i := 0) (v := .pointer (some ⟨w.heap.size, 0, none⟩)) 10 rfl rfl (by kernel_rfl) (by kernel_rfl) (by kernel_rfl) (fun _ _ _ h => h) (Or.inl ⟨by rfl, fun w' hSw => by go_simp⟩) (by assumption) ?_
  simp only [Act.put, List.setIfInBounds_toArray, List.set_cons_zero, List.set_cons_succ]
  refine take_at (i := 1) (v := .bool s) 11 rfl rfl (by kernel_rfl) (by kernel_rfl) (by kernel_rfl) (fun _ _ _ h => h) (Or.inl ⟨by rfl, fun w' hSw => by have q := (hSw.cell (p := ⟨w.heap.size, 0, none⟩) hlt).trans a0; go_simp⟩) (by assumption) ?_
  simp only [Act.put, List.setIfInBounds_toArray, List.set_cons_zero, List.set_cons_succ]
  refine take_at (i := 2) (v := .int .i64 (k : Int)) 12 rfl rfl (by kernel_rfl) (by kernel_rfl) (by kernel_rfl) (fun _ _ _ h => h) (Or.inl ⟨by rfl, fun w' hSw => by go_simp⟩) (by assumption) ?_
  simp only [Act.put, List.setIfInBounds_toArray, List.set_cons_zero, List.set_cons_succ]
  refine take_at (i := 4) (v := .pointer (some ⟨w.heap.size, 1, none⟩)) 14 rfl rfl (by kernel_rfl) (by kernel_rfl) (by kernel_rfl) (fun _ _ _ h => h) (Or.inl ⟨by rfl, fun w' hSw => by go_simp⟩) (by assumption) ?_
  simp only [Act.put, List.setIfInBounds_toArray, List.set_cons_zero, List.set_cons_succ]
  refine take_at (i := 5) (v := .slice (some ⟨b, off, none⟩) n c) 15 rfl rfl (by kernel_rfl) (by kernel_rfl) (by kernel_rfl) (fun _ _ _ h => h) (Or.inl ⟨by rfl, fun w' hSw => by have q := (hSw.cell (p := ⟨w.heap.size, 1, none⟩) hlt).trans a1; go_simp⟩) (by assumption) ?_
  simp only [Act.put, List.setIfInBounds_toArray, List.set_cons_zero, List.set_cons_succ]
  refine wpAnyH_one 3 (by kernel_rfl) ?_
  refine wpOp_run (i := 3) rfl ?_
  rw [if_pos (by rfl)]
  refine wp_make_digs _ _ rfl .i64 .i64 k rfl rfl (by omega) ?_
  intro w1 hown1 hb1 hs1
  have hsz0 := hB2.size
  have hBw1 : Below w.heap.size w w1 := hB2.drew.trans (hb1.mono hsz0)
  refine ⟨hb1.mono (Nat.le_of_lt hsz1), ?_⟩
  simp only [Act.put, List.setIfInBounds_toArray]
  refine wpAnyH_one 6 (by kernel_rfl) ?_
  refine wpOp_run (i := 6) rfl ?_
  rw [if_pos (by rfl)]
  refine wp_append_own _ _ _ _ rfl W0.drew.heap.size 80 i0 (.int .u32 0) 1 4 Tryz.underlying24 HI.out HZ.out.1 HZ.out.2.1 HZ.out.2.2 rfl (by decide) _ k (digVals (fun _ => 0) k) rfl hown1 ⟨b, off, none⟩ n c (digVals f n) rfl (by rw [digVals_length]; omega) (fun j u hj => ?_) (digVals_one f n) (by unfold maxLen; omega) (by omega) (by omega) ?_
  · have hjn : j < n := by have := (List.getElem?_eq_some_iff.1 hj).1; rw [digVals_length] at this; exact this
    rw [digVals_get f hjn] at hj
    cases hj
    have := (HCS.out.below hBw1 (.inl (Nat.le_refl _))) j hjn
    rw [← this]; congr 1; unfold Addr.add; split <;> simp_all
  intro v' w2 hown hgrow _
  rw [digVals_sh] at hown
  obtain ⟨a', c', rfl, hc', hd', hf'⟩ := owns_digF hown
  have HCC := hide hc'
  have hb2 : Below W0.drew.heap.size W0.drew w2 := hb1.grown hgrow hb1.size (fun k' hk' => (hown1.lt k' hk').1)
  have hbC : Box2 W0.drew (w.heap.size + 1) (.bool false) (.slice none 0 0) := HC.out.below (Below.drew (Below.refl _ _)) HC.out.lt
  have hbC2 := hbC.below hb2 hbC.lt
  have hBw2 : Below w.heap.size w w2 := hB2.drew.trans (hb2.mono hsz0)
  have hD : Digs w2 a' (k + n) := ⟨_, hd', fun j hj => by unfold shF; split; decide; exact HF.out _ (by omega), by omega⟩
  have hD2 := hD.set2 hbC2 (.bool s) (.slice a' (k + n) c') (.inr fun ad e => by have h1 := hf' ad e; have h2 := hbC.lt; omega)
  have hBB := below_set2 hBw2 (B := w.heap.size + 1) (by omega) (.bool s) (.slice a' (k + n) c')
  have hQ := hbC2.set (.bool s) (.slice a' (k + n) c')
  have HK := hide (And.intro hQ (And.intro hD2 hBB))
  refine ⟨hb2.mono (Nat.le_of_lt hsz1), ?_⟩
  simp only [Act.put]
  refine wpAnyH_one 7 (by kernel_rfl) ?_
  refine wpOp_run (i := 7) rfl ?_
  go_simp
  refine ⟨hb2.mono (Nat.le_of_lt hsz1), ?_⟩
  obtain ⟨r0, r1, z0, z1⟩ := hbC2
  refine wpAnyH_one 8 (by kernel_rfl) ?_
  refine wpOp_run (i := 8) rfl ?_
  go_simp
  refine ⟨below_set2 (hb2.mono (Nat.le_of_lt hsz1)) (Nat.le_refl _) _ _, ?_⟩
  refine wpAnyH_done (by kernel_rfl) ?_ _
  obtain ⟨⟨q0, q1, -, -⟩, hDD, hBB⟩ := HK.out
  clear r0 r1
  go_wp2
  exact bodyPost_ret (v := .agg #[.bool s, .slice a' (k + n) c']) (by simp [results, Tryz.results15, go_sem, q0, q1]) rfl ⟨a', _, c', rfl, hDD, hBB, HCC.out⟩


set_option maxRecDepth 100000 in
set_option maxHeartbeats 2000000 in
theorem raised_cap_zero (s : Bool) (a : Option Addr) (c k : Nat) (w : World) :
    Calls Tryz.prog 15 #[.agg #[.bool s, .slice a 0 c], .int .i64 (k : Int)] w fun e w' => ∃ a' m c', e = .returned (.agg #[.bool s, .slice a' m c']) ∧ Digs w' a' m ∧ Below w.heap.size w w' ∧ m ≤ c' := by
  have hB := below_alloc' w (Obj.cells #[Value.bool s, Value.slice a 0 c] 26)
  have hB2 := hB.trans ((below_alloc' (w.alloc (Obj.cells #[Value.bool s, Value.slice a 0 c] 26)) (Obj.cells #[Value.bool s, Value.slice a 0 c] 26)).mono hB.size)
  have HB := hide hB2
  clear hB hB2
  go_enter Tryz.func15, Tryz.ntmps15
  go_wp2
  exact bodyPost_ret (v := .agg #[.bool s, .slice a 0 c]) (by simp [results, Tryz.results15, go_sem]) rfl ⟨a, 0, c, rfl, ⟨fun _ => 0, .inl rfl, fun _ _ => by show (0 : Nat) < 4294967296; decide, by omega⟩, HB.out, Nat.zero_le _⟩

theorem raised_cap (s : Bool) (a : Option Addr) (n c k : Nat) (hk : k ≤ 64) (h6 : n ≤ 70) (w : World) (hd : Digs w a n) :
    Calls Tryz.prog 15 #[.agg #[.bool s, .slice a n c], .int .i64 (k : Int)] w fun e w' => ∃ a' m c', e = .returned (.agg #[.bool s, .slice a' m c']) ∧ Digs w' a' m ∧ Below w.heap.size w w' ∧ m ≤ c' := by
  rcases Nat.eq_zero_or_pos n with rfl | h
  · exact raised_cap_zero s a c k w
  · exact raised_cap_pos s a n c k hk h h6 w hd
end Go.Proofs.YtamibmikbbjjbaaGreatDoor
