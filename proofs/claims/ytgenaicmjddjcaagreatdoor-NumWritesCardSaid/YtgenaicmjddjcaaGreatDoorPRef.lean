/- Several texts in one. -/
import Derived.Test.YtgenaicmjddjcaaGreatDoorPNumC
import Derived.Laws.AppendOwn
import Derived.OrdersHeld
import Derived.Deep.RegionHeld3
import Derived.Test.YtgenaicmjddjcaaGreatDoorPNumD
import Derived.Test.YtgenaicmjddjcaaGreatDoorPNumB
/- The reference's trim and signed. -/
namespace Go.Proofs.YtgenaicmjddjcaaGreatDoor
open Go.RowKit Go.Shelf

theorem valF_drop {f : Nat → Nat} {k L : Nat} (hk : k ≤ L) (h : ∀ j, k ≤ j → j < L → f j = 0) : valF f L = valF f k := by
 obtain ⟨m, rfl⟩ : ∃ m, L = k + m := ⟨L - k, by omega⟩
 rw [valF_add, valF_zeros (f := fun j => f (k + j)) fun j hj => h (k + j) (by omega) (by omega), Nat.mul_zero, Nat.add_zero]

set_option maxRecDepth 100000 in
set_option maxHeartbeats 1000000 in
theorem rtrim_any (a : Option Addr) (L cap : Nat) (f : Nat → Nat) (hL : L ≤ 1099511627776) (hcap : L ≤ cap) (hf : ∀ j, j < L → f j < 4294967296) (w : World) (hd : Dig w a L f) :
 Calls Tryz.prog 62 #[.slice a L cap] w fun e w' => ∃ (a' : Option Addr) (cap' : Nat), e = .returned (.slice a' (dlen (valF f L)) cap') ∧ (a' = a ∨ dlen (valF f L) = 0) ∧ dlen (valF f L) ≤ cap' ∧ w' = w := by
 go_enter Tryz.func62, Tryz.ntmps62
 go_wp2
 go_loopw [3] (fun i wr => ∃ k : Nat, k ≤ L ∧ i = .int .i64 (k : Int) ∧ (∀ j, k ≤ j → j < L → f j = 0) ∧ wr = w) (fun i _ => (intOf i).toNat)
 case atStart => exact ⟨L, Nat.le_refl _, rfl, fun j h1 h2 => by omega, rfl⟩
 case round =>
  obtain ⟨k, hk, rfl, hz, hwr⟩ := hrel
  rw [hwr]
  clear hwr
  by_cases h0 : k = 0
  · subst h0
    have HZ := hide hz
    clear hz
    go_wp2
    go_ret
    have e : dlen (valF f L) = 0 := by rw [valF_drop (Nat.zero_le _) HZ.out, valF_zero, dlen_zero]
    exact ⟨a, cap, by rw [e]; rfl, .inl rfl, by omega, rfl⟩
  · obtain ⟨b, off, rfl, hc⟩ := hd.at (by omega)
    have hx := hc (k - 1) (by omega)
    have hcast : (k : Int) - 1 = ((k - 1 : Nat) : Int) := by omega
    have HZ := hide hz
    by_cases hzero : f (k - 1) = 0
    · have hx' : w.cell? ⟨b, off + (k - 1), none⟩ = some (.int .u32 0) := by rw [hx, hzero]; rfl
      have HZ0 := hide hzero
      clear hz hx hc hzero
      go_wp2
      exact ⟨⟨k - 1, by omega, rfl, fun j h1 h2 => by
       by_cases hj : j = k - 1
       · rw [hj]; exact HZ0.out
       · exact HZ.out j (by omega) h2, trivial⟩, by simp [intOf]; omega⟩
    · have hb : (((f (k - 1) : Nat) : Int) == 0) = false := by simp; omega
      have HZ0 := hide hzero
      have HF := hide hf
      clear hz hc hzero hf
      go_wp2
      go_ret
      have e : dlen (valF f L) = k := by rw [valF_drop hk HZ.out]; exact dlen_valF (fun i hi => HF.out i (by omega)) (.inr HZ0.out)
      exact ⟨_, cap, by rw [e]; rfl, .inl rfl, by omega, rfl⟩

theorem below_alloc' (w : World) (o : Obj) : Below w.heap.size w (w.alloc o) := (Below.refl _ w).alloc (Nat.le_refl _) _
theorem owns_digs {w : World} {base : Nat} {e : TypeId} {gv : Value} {k : Nat} {f : Nat → Nat} (h : w.ownsRow base e 1 gv k (digVals f k)) (hk : 0 < k) : ∃ g c, gv = .slice (some ⟨g, 0, none⟩) k c ∧ base ≤ g ∧ k ≤ c ∧ Cells w g 0 k f := by
 rcases h.2 with ⟨_, h0⟩ | ⟨g, cap, cur, rfl, hb, hob, hc, _⟩
 · omega
 · refine ⟨g, cap, rfl, hb, hc, fun j hj => ?_⟩
   have := h.cells (g := g) rfl j (.int .u32 ((f j : Nat) : Int)) (digVals_get f hj)
   rw [← this]; congr 1; unfold Addr.add; split <;> simp_all

set_option maxRecDepth 100000 in
set_option maxHeartbeats 2000000 in
theorem rsigned_any (neg : Bool) (a : Option Addr) (L cap : Nat) (f : Nat → Nat) (hL : L ≤ 1099511627776) (hcap : L ≤ cap) (hf : ∀ j, j < L → f j < 4294967296) (w : World) (hd : Dig w a L f) (hfit : dlen (valF f L) ≤ 64) :
 Calls Tryz.prog 60 #[.bool neg, .slice a L cap] w (NumPost w (signed neg (valF f L))) := by
 obtain ⟨i0, hi, hz0, hz1, hz2⟩ := info_parts info_u32
 have HI := hide hi
 have HZ := hide (And.intro hz0 (And.intro hz1 hz2))
 have HF := hide hf
 have bC : Box2 (w.alloc (Obj.cells #[.bool false, .slice none 0 0] 25)) w.heap.size (.bool false) (.slice none 0 0) := Box2.new _ _ _ _
 have hB0 : Below w.heap.size w (w.alloc (Obj.cells #[.bool false, .slice none 0 0] 25)) := (Below.refl _ w).alloc (Nat.le_refl _) _
 clear hi hz0 hz1 hz2 hf
 go_enter Tryz.func60, Tryz.ntmps60
 go_wp2_with fail
 obtain ⟨W0, hW0⟩ : ∃ W0, w.alloc (Obj.cells #[.bool false, .slice none 0 0] 25) = W0 := ⟨_, rfl⟩
 rw [hW0] at bC hB0 ⊢
 clear hW0
 have hd0 := hd.below hB0
 refine (rtrim_any a L cap f hL hcap HF.out W0 hd0).mono ?_
 rintro e w1 ⟨a1, c1, rfl, ha1, hc1, rfl⟩
 obtain ⟨V, hV⟩ : ∃ V, valF f L = V := ⟨_, rfl⟩
 rw [hV] at ha1 hc1 hfit
 have HV := hide hV
 obtain ⟨n, hn⟩ : ∃ n, dlen V = n := ⟨_, rfl⟩
 rw [hV, hn]
 rw [hn] at ha1 hc1 hfit
 have HN := hide hn
 clear hV hn
 by_cases h0 : n = 0
 · subst h0
   have hV0 : V = 0 := dlen_eq_zero.1 HN.out
   have HV0 := hide hV0
   clear hV0
   have bC0 := bC
   obtain ⟨c0, c1', z0, z1⟩ := bC
   have kC := bC0.set (.bool false) (.slice none 0 0)
   have kB := below_set2 hB0 (B := w.heap.size) (Nat.le_refl _) (.bool false) (.slice none 0 0)
   obtain ⟨q0, q1, -, -⟩ := kC
   have Q := hide (And.intro q0 q1)
   clear q0 q1
   go_wp2
   obtain ⟨q0, q1⟩ := Q.out
   refine bodyPost_ret (v := .tuple #[.agg #[.bool false, .slice none 0 0], .bool true]) (by simp [results, Tryz.results60, go_sem, q0, q1]) rfl ⟨_, _, _, _, rfl, ?_, .inl rfl, kB⟩
   rw [HV.out, HV0.out]
   exact ⟨by simp [signed], ⟨by simp [signed, dlen_zero], .inl rfl⟩⟩
 · obtain rfl : a1 = a := by rcases ha1 with h | h; exact h; exact absurd h h0
   have hnL : n ≤ L := by rw [← HN.out, ← HV.out]; exact dlen_le_iff.2 (valF_lt HF.out)
   obtain ⟨b, off, rfl, hc⟩ := (hd0.mono hnL).at (by omega)
   have hnb : ((n : Int) == 0) = false := by simp; omega
   have HC := hide hc
   have bC0 := bC
   have hbw := bC.lt
   obtain ⟨c0, c1', z0, z1⟩ := bC
   clear hc hd0 hd ha1
   go_wp2_with (at_builtin; refine wpList_append_own _ rfl _ _ 23 rfl w1.heap.size 68 i0 (.int .u32 0) 1 4 Tryz.underlying23 HI.out HZ.out.1 HZ.out.2.1 HZ.out.2.2 rfl (by decide) (.slice (some ⟨w1.heap.size, 0, none⟩) 0 0) 0 [] rfl (World.ownsRow_made w1 #[] 0 (Nat.le_refl _) (by unfold maxLen; omega) rfl) ⟨b, off, none⟩ n c1 (digVals f n) rfl (by rw [digVals_length]; omega) ?c1 (digVals_one f n) ?c3 ?c4 ?c5 ?_)
   case c1 =>
    intro j u hj
    have hjn : j < n := by have := (List.getElem?_eq_some_iff.1 hj).1; rw [digVals_length] at this; exact this
    rw [digVals_get f hjn] at hj
    cases hj
    have := (HC.out.below (below_alloc' w1 (Obj.cells #[] 68)) (.inr (by have := HC.out.lt (by omega); exact this))) j hjn
    rw [← this]; congr 1; unfold Addr.add; split <;> simp_all
   case c3 => unfold maxLen; omega
   case c4 => omega
   case c5 => simp
   intro v' w2 hown hgrow _
   obtain ⟨g, c, rfl, hg, hgc, hcg⟩ := owns_digs hown (by omega)
   have hbk : w2.heap[w.heap.size]? = w1.heap[w.heap.size]? := by
    rw [hgrow.block w.heap.size (by rw [World.size_alloc]; omega) (fun e => by have e' : w.heap.size = w1.heap.size := Option.some.inj e; omega), Below.heap_alloc w1 _ _ hbw]
   have bC2 : Box2 w2 w.heap.size (.bool false) (.slice none 0 0) := ⟨by rw [cell_of_block_eq hbk]; exact bC0.c0, by rw [cell_of_block_eq hbk]; exact bC0.c1, by rw [frozen_of_block_eq hbk]; exact bC0.z0, by rw [frozen_of_block_eq hbk]; exact bC0.z1⟩
   have hB2 : Below w.heap.size w w2 := (hB0.alloc hB0.size _).grown hgrow (by rw [World.size_alloc]; omega) (fun k e => by have e' : w1.heap.size = k := Option.some.inj e; omega)
   have hfn : ∀ j, j < n → f j < 4294967296 := fun j hj => HF.out j (by omega)
   have hVn : valF f n = V := by
    rw [← HV.out]
    refine (valF_drop hnL fun j h1 h2 => ?_).symm
    have h3 := dgt_valF HF.out h2
    rw [HV.out] at h3
    rw [← h3]; unfold dgt
    rw [Nat.div_eq_of_lt (Nat.lt_of_lt_of_le (lt_bp_dlen V) (bp_le (by rw [HN.out]; exact h1)))]
   have hI : IsD w2 (some ⟨g, 0, none⟩) n V := by
    refine ⟨HN.out.symm, .inr ⟨g, 0, rfl, hcg.congr fun j hj => ?_⟩⟩
    rw [← hVn, dgt_valF hfn hj]
   have hV0 : V ≠ 0 := fun e => h0 (by rw [← HN.out, e, dlen_zero])
   have hN2 : IsN w2 neg (some ⟨g, 0, none⟩) n (signed neg V) := IsN.mk' hI (fun _ => hV0)
   obtain ⟨hbx, hN, hBB⟩ := num_store (cap := c) bC2 (Nat.le_refl _) hB2 hN2 (.inr fun ad e => by cases e; show g ≠ _; omega)
   have Q := hide (And.intro hbx (And.intro hN hBB))
   obtain ⟨r0, r1, y0, y1⟩ := bC2
   clear hbx hN hBB hI hN2 hVn hfn hcg hown hgrow hnb c0 c1' z0 z1
   go_wp2
   obtain ⟨⟨q0, q1, -, -⟩, hN, hBB⟩ := Q.out
   refine bodyPost_ret (v := .tuple #[.agg #[.bool neg, .slice (some ⟨g, 0, none⟩) n c], .bool true]) (by simp [results, Tryz.results60, go_sem, q0, q1]) rfl ⟨_, _, _, _, rfl, ?_, .inr fun ad e => by cases e; show _ ≤ g; omega, hBB⟩
   rw [HV.out]; exact hN
end Go.Proofs.YtgenaicmjddjcaaGreatDoor

/- The reference's Made. -/
namespace Go.Proofs.YtgenaicmjddjcaaGreatDoor
open Go.RowKit Go.Shelf

def Ints (w : World) (a : Option Addr) (L : Nat) (g : Nat → Int) : Prop := L = 0 ∨ ∃ b off, a = some ⟨b, off, none⟩ ∧ ∀ j, j < L → w.cell? ⟨b, off + j, none⟩ = some (.int .i64 (g j))
theorem Ints.below {w w' : World} {a : Option Addr} {L : Nat} {g : Nat → Int} (h : Ints w a L g) (t : Below w.heap.size w w') : Ints w' a L g := by
 rcases h with h | ⟨b, off, e, hc⟩
 · exact .inl h
 · exact .inr ⟨b, off, e, fun j hj => (t.cell (p := ⟨b, off + j, none⟩) (lt_of_cell (hc j hj))).trans (hc j hj)⟩
def madeF (g : Nat → Int) : Nat → Nat := fun j => (g (j + 1) % 4294967296).toNat
theorem madeF_lt (g : Nat → Int) (j : Nat) : madeF g j < 4294967296 := by unfold madeF; omega
theorem madeF_cast (g : Nat → Int) (j : Nat) : ((madeF g j : Nat) : Int) = g (j + 1) % 4294967296 := by unfold madeF; omega
theorem digVals_succ (f : Nat → Nat) (k : Nat) : digVals f (k + 1) = digVals f k ++ [.int .u32 ((f k : Nat) : Int)] := by simp [digVals, List.range_succ]

theorem owns_dig {w : World} {base : Nat} {e : TypeId} {gv : Value} {k : Nat} {f : Nat → Nat} (h : w.ownsRow base e 1 gv k (digVals f k)) : ∃ a c, gv = .slice a k c ∧ k ≤ c ∧ Dig w a k f := by
 rcases h.2 with ⟨hv, h0⟩ | ⟨g, cap, cur, hv, hb, hob, hc, _⟩
 · exact ⟨none, 0, by rw [hv, h0], by omega, .inl h0⟩
 · refine ⟨some ⟨g, 0, none⟩, cap, hv, hc, .inr ⟨g, 0, rfl, fun j hj => ?_⟩⟩
   have := h.cells (g := g) (by rw [hv]; rfl) j (.int .u32 ((f j : Nat) : Int)) (digVals_get f hj)
   rw [← this]; congr 1; unfold Addr.add; split <;> simp_all
def MadePost (w : World) (e : Ending) (w' : World) : Prop :=
 ∃ (z : Int) (s : Bool) (a : Option Addr) (n c : Nat), e = .returned (.agg #[.bool s, .slice a n c]) ∧ IsN w' s a n z ∧ n ≤ 6 ∧ (n = 0 ∨ Fresh w a) ∧ Below w.heap.size w w'

set_option maxRecDepth 100000 in
set_option maxHeartbeats 4000000 in
theorem made_any (ao : Option Addr) (L cap : Nat) (g : Nat → Int) (hL : L ≤ 9223372036854775807) (w : World) (hl : Ints w ao L g) :
 Calls Tryz.prog 9 #[.slice ao L cap] w (MadePost w) := by
 obtain ⟨i0, hi, hz0, hz1, hz2⟩ := info_parts info_u32
 have HI := hide hi
 have HZ := hide (And.intro hz0 (And.intro hz1 hz2))
 have HLI := hide hl
 clear hi hz0 hz1 hz2
 go_enter Tryz.func9, Tryz.ntmps9
 go_wp2_with fail
 obtain ⟨W0, hW0⟩ : ∃ W0, w.alloc (Obj.cells #[.bool false, .slice none 0 0] 25) = W0 := ⟨_, rfl⟩
 have bC : Box2 W0 w.heap.size (.bool false) (.slice none 0 0) := by rw [← hW0]; exact Box2.new _ _ _ _
 have hB0 : Below w.heap.size w W0 := by rw [← hW0]; exact (Below.refl _ w).alloc (Nat.le_refl _) _
 rw [hW0]
 clear hW0
 go_loopw [3, 4] (fun dv i wr => ∃ k : Nat, k < 7 ∧ (k = 0 ∨ k < L) ∧ i = .int .i64 ((k + 1 : Nat) : Int) ∧ wr.ownsRow W0.heap.size 68 1 dv k (digVals (madeF g) k) ∧ Below W0.heap.size W0 wr)
  (fun _ i _ => (8 - intOf i).toNat)
 case atStart => exact ⟨0, by decide, .inl rfl, rfl, World.ownsRow_nil _ _ _ _, Below.refl _ _⟩
 case round =>
  obtain ⟨k, hk, hkL, rfl, ho, hr⟩ := hrel
  have HO := hide ho
  have hBr := hB0.trans (hr.mono hB0.size)
  clear ho
  by_cases hgo : k + 1 < L ∧ k < 6
  · obtain ⟨hg1, hg2⟩ := hgo
    obtain ⟨b, off, rfl, hc⟩ : ∃ b off, ao = some ⟨b, off, none⟩ ∧ ∀ j, j < L → wr.cell? ⟨b, off + j, none⟩ = some (.int .i64 (g j)) := by
     rcases HLI.out.below hBr with h | h
     · omega
     · exact h
    have hx := hc (k + 1) hg1
    have hk1 : ((k + 1 : Nat) : Int) < L := by omega
    have hk7 : ((k + 1 : Nat) : Int) < 7 := by omega
    clear hc
    have hm1 : madeF g k < 4294967296 := madeF_lt g k
    have hmc : IntKind.u32.wrap (g (k + 1)) = ((madeF g k : Nat) : Int) := by rw [madeF_cast]; exact IntKind.wrap_u32 _
    have hmc' : g (k + 1) % 4294967296 = ((madeF g k : Nat) : Int) := (madeF_cast g k).symm
    have HSZ := hide hr.size
    go_wp2_with (at_builtin; refine wpList_append_own _ rfl _ _ 23 rfl W0.heap.size 68 i0 (.int .u32 0) 1 4 Tryz.underlying23 HI.out HZ.out.1 HZ.out.2.1 HZ.out.2.2 rfl (by decide) _ _ _ rfl (HO.out.alloc _) ⟨wr.heap.size, 0, none⟩ 1 1 [.int .u32 ((madeF g k : Nat) : Int)] rfl rfl ?c1 ?c2 ?c3 ?c4 ?c5 ?_)
    case c1 =>
     intro j u hj
     match j, hj with
     | 0, hj => simp at hj; subst hj; simp [Addr.add]
    case c2 => intro u hu; simp at hu; subst hu; rfl
    case c3 => unfold maxLen; omega
    case c4 => omega
    case c5 => have := HSZ.out; simp; omega
    intro v' w2 hown hgrow _
    have hb2 : Below W0.heap.size W0 w2 := (hr.alloc HSZ.out _).grown hgrow (by rw [World.size_alloc]; have := HSZ.out; omega) (fun k' hk' => (HO.out.lt k' hk').1)
    have HO2 := hide hown
    clear hown hgrow hx hmc hmc'
    go_wp2_with fail
    go_roundw
    case rel => exact ⟨k + 1, by omega, .inr (by omega), by go_num, by rw [digVals_succ]; exact HO2.out, hb2⟩
    case measure => simp [intOf]; omega
  · obtain ⟨a3, c3, rfl, hcap3, hd3⟩ := owns_dig HO.out
    have hle : ¬ (k + 1 < L ∧ k < 6) := hgo
    have hfit : dlen (valF (madeF g) k) ≤ 6 := Nat.le_trans (dlen_le_iff.2 (valF_lt fun j _ => madeF_lt g j)) (by omega)
    have hcall := fun B => rsigned_any B a3 k c3 (madeF g) (by omega) hcap3 (fun j _ => madeF_lt g j) wr hd3 (by omega)
    have bCr := bC.below hr bC.lt
    have HCL := hide hcall
    have HFT := hide hfit
    clear hcall hfit hgo hd3
    have htail : ∀ (B : Bool) (e : Ending) (w' : World), NumPost wr (signed B (valF (madeF g) k)) e w' → ∃ (s : Bool) (a : Option Addr) (n c : Nat), e = .returned (.tuple #[.agg #[.bool s, .slice a n c], .bool true]) ∧
     IsN w' s a n (signed B (valF (madeF g) k)) ∧ n ≤ 6 ∧ (n = 0 ∨ Fresh wr a) ∧ Below wr.heap.size wr w' := by
     rintro B e w' ⟨s, a, n, c, rfl, h1, h2, h3⟩
     exact ⟨s, a, n, c, rfl, h1, by rw [h1.dig.len, signed_abs]; exact HFT.out, h2, h3⟩
    have HTL := hide htail
    clear htail
    by_cases hL0 : L = 0
    · subst hL0
      go_wp2_with fail
      refine (HCL.out _).mono ?_
      intro e w' hpost
      obtain ⟨s, a, n, c, rfl, hN, hn6, hf, hb⟩ := HTL.out _ e w' hpost
      clear hpost
      have bC' := bCr.below hb bCr.lt
      have hBw : Below w.heap.size w w' := hBr.trans (hb.mono hBr.size)
      have hlt := bC'.lt
      have hltr := bCr.lt
      obtain ⟨hbx0, hN0, hB0'⟩ := num_store (cap := c) bC' (Nat.le_refl _) hBw hN (hf.imp id fun h ad e => by have := h ad e; omega)
      have hal := below_alloc' ((w'.setCell ⟨w.heap.size, 0, none⟩ (.bool s)).setCell ⟨w.heap.size, 1, none⟩ (.slice a n c)) (Obj.cells #[.bool s, .slice a n c] 25)
      have hNf := hN0.below hal
      have hBf := hB0'.trans (hal.mono hB0'.size)
      obtain ⟨q0, q1, -, -⟩ := hbx0.below hal hbx0.lt
      have Q := hide (And.intro q0 (And.intro q1 (And.intro hNf (And.intro hBf hf))))
      have hsr := hBr.size
      clear q0 q1 hNf hBf hf hbx0 hN0 hB0' hal
      obtain ⟨r0, r1, y0, y1⟩ := bC'
      go_wp2
      obtain ⟨q0, q1, hNf, hBf, hf⟩ := Q.out
      exact bodyPost_ret (v := .agg #[.bool s, .slice a n c]) (by simp [results, Tryz.results9, go_sem, q0, q1]) rfl ⟨_, s, a, n, c, rfl, hNf, hn6, hf.imp id fun h ad e => Nat.le_trans hsr (h ad e), hBf⟩
    · obtain ⟨b, off, rfl, hc⟩ : ∃ b off, ao = some ⟨b, off, none⟩ ∧ ∀ j, j < L → wr.cell? ⟨b, off + j, none⟩ = some (.int .i64 (g j)) := by
       rcases HLI.out.below hBr with h | h
       · exact absurd h hL0
       · exact h
      have hx : wr.cell? ⟨b, off, none⟩ = some (.int .i64 (g 0)) := hc 0 (by omega)
      have hL1 : (0 : Int) < L := by omega
      have hL2 : 0 < L := by omega
      clear hc
      obtain ⟨B, hB⟩ : ∃ B, ((g 0).tmod 2 != 0) = B := ⟨_, rfl⟩
      by_cases hk6 : k < 6
      · have hk1 : ¬ ((k : Int) + 1 < L) := by omega
        go_wp2_with fail
        refine (HCL.out _).mono ?_
        intro e w' hpost
        obtain ⟨s, a, n, c, rfl, hN, hn6, hf, hb⟩ := HTL.out _ e w' hpost
        clear hpost
        have bC' := bCr.below hb bCr.lt
        have hBw : Below w.heap.size w w' := hBr.trans (hb.mono hBr.size)
        have hlt := bC'.lt
        have hltr := bCr.lt
        obtain ⟨hbx0, hN0, hB0'⟩ := num_store (cap := c) bC' (Nat.le_refl _) hBw hN (hf.imp id fun h ad e => by have := h ad e; omega)
        have hal := below_alloc' ((w'.setCell ⟨w.heap.size, 0, none⟩ (.bool s)).setCell ⟨w.heap.size, 1, none⟩ (.slice a n c)) (Obj.cells #[.bool s, .slice a n c] 25)
        have hNf := hN0.below hal
        have hBf := hB0'.trans (hal.mono hB0'.size)
        obtain ⟨q0, q1, -, -⟩ := hbx0.below hal hbx0.lt
        have Q := hide (And.intro q0 (And.intro q1 (And.intro hNf (And.intro hBf hf))))
        have hsr := hBr.size
        clear q0 q1 hNf hBf hf hbx0 hN0 hB0' hal
        obtain ⟨r0, r1, y0, y1⟩ := bC'
        go_wp2
        obtain ⟨q0, q1, hNf, hBf, hf⟩ := Q.out
        exact bodyPost_ret (v := .agg #[.bool s, .slice a n c]) (by simp [results, Tryz.results9, go_sem, q0, q1]) rfl ⟨_, s, a, n, c, rfl, hNf, hn6, hf.imp id fun h ad e => Nat.le_trans hsr (h ad e), hBf⟩
      · have hk1 : ¬ ((k : Int) + 1 < 7) := by omega
        go_wp2_with fail
        all_goals (
         refine (HCL.out _).mono ?_
         intro e w' hpost
         obtain ⟨s, a, n, c, rfl, hN, hn6, hf, hb⟩ := HTL.out _ e w' hpost
         clear hpost
         have bC' := bCr.below hb bCr.lt
         have hBw : Below w.heap.size w w' := hBr.trans (hb.mono hBr.size)
         have hlt := bC'.lt
         have hltr := bCr.lt
         obtain ⟨hbx0, hN0, hB0'⟩ := num_store (cap := c) bC' (Nat.le_refl _) hBw hN (hf.imp id fun h ad e => by have := h ad e; omega)
         have hal := below_alloc' ((w'.setCell ⟨w.heap.size, 0, none⟩ (.bool s)).setCell ⟨w.heap.size, 1, none⟩ (.slice a n c)) (Obj.cells #[.bool s, .slice a n c] 25)
         have hNf := hN0.below hal
         have hBf := hB0'.trans (hal.mono hB0'.size)
         obtain ⟨q0, q1, -, -⟩ := hbx0.below hal hbx0.lt
         have Q := hide (And.intro q0 (And.intro q1 (And.intro hNf (And.intro hBf hf))))
         have hsr := hBr.size
         clear q0 q1 hNf hBf hf hbx0 hN0 hB0' hal
         obtain ⟨r0, r1, y0, y1⟩ := bC'
         go_wp2
         obtain ⟨q0, q1, hNf, hBf, hf⟩ := Q.out
         exact bodyPost_ret (v := .agg #[.bool s, .slice a n c]) (by simp [results, Tryz.results9, go_sem, q0, q1]) rfl ⟨_, s, a, n, c, rfl, hNf, hn6, hf.imp id fun h ad e => Nat.le_trans hsr (h ad e), hBf⟩)
end Go.Proofs.YtgenaicmjddjcaaGreatDoor

/- A region that makes several Nums and stores each in a variable of its own, in whatever order its operations come up. -/
namespace Go.Proofs.YtgenaicmjddjcaaGreatDoor
open Go.RowKit Go.Shelf

section
variable {P : Program} {ops : Array Oper} {Q : Exit → Act → World → Prop} {md : Region.Mode} {S : World → Prop}
theorem take_at {i : Nat} (d : Tmp) {oi : Oper} {v : Value} {fuel : Nat} {listed : Array Bool} {a : Act} {w : World} (hi : ops[i]? = some oi) (hd : oi.dst = some d)
 (hs : Region.noSelect ops = true) (hf : Region.free md ops listed i = true) (hr : (Region.ready md ops listed).contains i = true)
 (hQ : ∀ c a w, Q (.panic c) (a.put oi.dst v) w → Q (.panic c) a w) (hy : YieldsIf P ops S oi v a) (hS : S w)
 (h : wpAnyH P md ops Q S fuel (listed.setIfInBounds i true) (a.put (some d) v) w) : wpAnyH P md ops Q S (fuel + 1) listed a w :=
 wpAnyH_take hi hs hf hr hQ hy hS (by rw [hd]; exact h)
theorem tk (i : Nat) (v : Value) (d : Tmp) {oi : Oper} {fuel : Nat} {listed : Array Bool} {a : Act} {w : World} (hi : ops[i]? = some oi) (hd : oi.dst = some d)
 (h : wpAnyH P md ops Q S fuel (listed.setIfInBounds i true) (a.put (some d) v) w) (hy : YieldsIf P ops S oi v a := by exact Or.inl ⟨by rfl, fun w' hSw => by go_simp⟩)
 (hs : Region.noSelect ops = true := by kernel_rfl) (hf : Region.free md ops listed i = true := by kernel_rfl) (hr : (Region.ready md ops listed).contains i = true := by kernel_rfl)
 (hQ : ∀ c a w, Q (.panic c) (a.put oi.dst v) w → Q (.panic c) a w := by exact fun _ _ _ h => h) (hS : S w := by assumption) : wpAnyH P md ops Q S (fuel + 1) listed a w :=
 wpAnyH_take hi hs hf hr hQ hy hS (by rw [hd]; exact h)
theorem wpOp_call {i : Nat} {o : Oper} {a : Act} {w : World} {K : Act → World → Prop} {f : FuncId} {args : Array Value} (d : Tmp) (hi : ops[i]? = some o) (hd : o.dst = some d) (hw : Region.wanted o (yielded ops a.tmps) = true)
 (he : (execOp a.eval o).run P w = .ok (.enter f args) w) (h : Calls P f args w fun e w' => ∃ v, e = .returned v ∧ K (a.put (some d) v) w') : wpOp P ops Q i K a w := by
 unfold wpOp; simp only [hi]
 rw [if_pos hw]
 refine .inl ?_
 unfold Oper.wp
 rw [he]
 simp only [Oper.upon]
 refine h.mono ?_
 rintro e w' ⟨v, rfl, hK⟩
 rw [hd]; exact hK
theorem wpOp_run {i : Nat} {o : Oper} {a : Act} {w : World} {K : Act → World → Prop} (hi : ops[i]? = some o) (h : if Region.wanted o (yielded ops a.tmps) then o.wp P a w K Q else K (a.put o.dst undef) w) : wpOp P ops Q i K a w := by
 unfold wpOp; simp only [hi]
 split
 · rename_i hw; rw [if_pos hw] at h; exact .inl h
 · rename_i hw; rw [if_neg hw] at h; exact h
end

def upd {α : Type} (f : Nat → α) (k : Nat) (v : α) : Nat → α := fun j => if j = k then v else f j
theorem upd_same {α : Type} (f : Nat → α) (k : Nat) (v : α) : upd f k v k = v := if_pos rfl
theorem upd_ne {α : Type} (f : Nat → α) {k j : Nat} (v : α) (h : j ≠ k) : upd f k v j = f j := if_neg h
theorem upd_eq {α : Type} (f : Nat → α) {k j : Nat} (v : α) (h : j = k) : upd f k v j = v := if_pos h

structure Fan (K : Nat) (w0 : World) (la lc ls : Nat → Bool) (U V : Nat → Value) (B : Nat → Nat) (s : Nat → Bool) (a : Nat → Option Addr) (n c : Nat → Nat) (z : Nat → Int) (w : World) : Prop where
 below : Below w0.heap.size w0 w
 var : ∀ k, k < K → la k = true → U k = .pointer (some ⟨B k, 0, none⟩) ∧ w0.heap.size ≤ B k
 box0 : ∀ k, k < K → la k = true → ls k = false → Box2 w (B k) (.bool false) (.slice none 0 0)
 box1 : ∀ k, k < K → la k = true → ls k = true → Box2 w (B k) (.bool (s k)) (.slice (a k) (n k) (c k))
 apart : ∀ j k, j < K → k < K → j ≠ k → la j = true → la k = true → B j ≠ B k
 num : ∀ k, k < K → lc k = true → V k = .agg #[.bool (s k), .slice (a k) (n k) (c k)] ∧ IsN w (s k) (a k) (n k) (z k) ∧ n k ≤ 6 ∧ (n k = 0 ∨ Fresh w0 (a k))
 off : ∀ j k, j < K → k < K → lc j = true → la k = true → n j = 0 ∨ ∀ ad, a j = some ad → ad.block ≠ B k
 ord : ∀ k, k < K → ls k = true → la k = true ∧ lc k = true
theorem Fan.box {K : Nat} {w0 w : World} {la lc ls : Nat → Bool} {U V : Nat → Value} {B : Nat → Nat} {s : Nat → Bool} {a : Nat → Option Addr} {n c : Nat → Nat} {z : Nat → Int} (h : Fan K w0 la lc ls U V B s a n c z w) {k : Nat} (hk : k < K) (ha : la k = true) : ∃ v0 v1, Box2 w (B k) v0 v1 := by
 cases hs : ls k with
 | false => exact ⟨_, _, h.box0 k hk ha hs⟩
 | true => exact ⟨_, _, h.box1 k hk ha hs⟩
theorem Fan.lt {K : Nat} {w0 w : World} {la lc ls : Nat → Bool} {U V : Nat → Value} {B : Nat → Nat} {s : Nat → Bool} {a : Nat → Option Addr} {n c : Nat → Nat} {z : Nat → Int} (h : Fan K w0 la lc ls U V B s a n c z w) {k : Nat} (hk : k < K) (ha : la k = true) : B k < w.heap.size := by
 obtain ⟨_, _, hb⟩ := h.box hk ha
 exact hb.lt
theorem IsN.old {w : World} {s : Bool} {a : Option Addr} {n : Nat} {z : Int} (h : IsN w s a n z) {g : Nat} (hg : w.heap.size ≤ g) : n = 0 ∨ ∀ ad, a = some ad → ad.block ≠ g := by
 by_cases h0 : n = 0
 · exact .inl h0
 · exact .inr (h.dig.dig.old hg (by omega))
theorem Fan.congr {K : Nat} {w0 w : World} {la lc ls la' lc' ls' : Nat → Bool} {U V : Nat → Value} {B : Nat → Nat} {s : Nat → Bool} {a : Nat → Option Addr} {n c : Nat → Nat} {z : Nat → Int} (h : Fan K w0 la lc ls U V B s a n c z w)
 (ea : ∀ k, k < K → la' k = la k) (ec : ∀ k, k < K → lc' k = lc k) (es : ∀ k, k < K → ls' k = ls k) : Fan K w0 la' lc' ls' U V B s a n c z w where
 below := h.below
 var k hk h' := h.var k hk (by rw [← ea k hk]; exact h')
 box0 k hk h' h'' := h.box0 k hk (by rw [← ea k hk]; exact h') (by rw [← es k hk]; exact h'')
 box1 k hk h' h'' := h.box1 k hk (by rw [← ea k hk]; exact h') (by rw [← es k hk]; exact h'')
 apart j k hj hk hne h1 h2 := h.apart j k hj hk hne (by rw [← ea j hj]; exact h1) (by rw [← ea k hk]; exact h2)
 num k hk h' := h.num k hk (by rw [← ec k hk]; exact h')
 off j k hj hk h1 h2 := h.off j k hj hk (by rw [← ec j hj]; exact h1) (by rw [← ea k hk]; exact h2)
 ord k hk h' := by rw [ea k hk, ec k hk]; exact h.ord k hk (by rw [← es k hk]; exact h')
theorem Fan.alloc {K : Nat} {w0 w : World} {la lc ls : Nat → Bool} {U V : Nat → Value} {B : Nat → Nat} {s : Nat → Bool} {a : Nat → Option Addr} {n c : Nat → Nat} {z : Nat → Int} (h : Fan K w0 la lc ls U V B s a n c z w) {k : Nat} (hk : k < K) (hla : la k = false) (t : TypeId) :
 Fan K w0 (upd la k true) lc ls (upd U k (.pointer (some ⟨w.heap.size, 0, none⟩))) V (upd B k w.heap.size) s a n c z (w.alloc (Obj.cells #[.bool false, .slice none 0 0] t)) := by
 have hg := below_alloc' w (Obj.cells #[.bool false, .slice none 0 0] t)
 have hls : ls k = false := by
  cases hs : ls k with
  | false => rfl
  | true => rw [(h.ord k hk hs).1] at hla; cases hla
 have hold : ∀ j, j ≠ k → upd la k true j = true → la j = true := fun j hj e => by rwa [upd_ne _ _ hj] at e
 refine { below := h.below.trans (hg.mono h.below.size), var := fun j hj e => ?_, box0 := fun j hj e e' => ?_, box1 := fun j hj e e' => ?_, apart := fun i j hi hj hne e1 e2 => ?_, num := fun j hj e => ?_, off := fun i j hi hj e1 e2 => ?_, ord := fun j hj e => ?_ }
 · by_cases ej : j = k
   · subst ej; rw [upd_same, upd_same]; exact ⟨rfl, h.below.size⟩
   · rw [upd_ne _ _ ej, upd_ne _ _ ej]; exact h.var j hj (hold j ej e)
 · by_cases ej : j = k
   · subst ej; rw [upd_same]; exact Box2.new _ _ _ _
   · rw [upd_ne _ _ ej]; have := h.box0 j hj (hold j ej e) e'; exact this.below hg this.lt
 · by_cases ej : j = k
   · subst ej; rw [hls] at e'; cases e'
   · rw [upd_ne _ _ ej]; have := h.box1 j hj (hold j ej e) e'; exact this.below hg this.lt
 · by_cases ei : i = k
   · subst ei
     rw [upd_same, upd_ne _ _ (Ne.symm hne)]
     have := h.lt hj (hold j (Ne.symm hne) e2); omega
   · rw [upd_ne _ _ ei]
     by_cases ej : j = k
     · subst ej; rw [upd_same]; have := h.lt hi (hold i ei e1); omega
     · rw [upd_ne _ _ ej]; exact h.apart i j hi hj hne (hold i ei e1) (hold j ej e2)
 · obtain ⟨h1, h2, h3, h4⟩ := h.num j hj e
   exact ⟨h1, h2.below hg, h3, h4⟩
 · by_cases ej : j = k
   · subst ej; rw [upd_same]; exact (h.num i hi e1).2.1.old (Nat.le_refl _)
   · rw [upd_ne _ _ ej]; exact h.off i j hi hj e1 (hold j ej e2)
 · obtain ⟨h1, h2⟩ := h.ord j hj e
   refine ⟨?_, h2⟩
   by_cases ej : j = k
   · rw [upd_eq _ _ ej]
   · rw [upd_ne _ _ ej]; exact h1
theorem Fan.call {K : Nat} {w0 w w' : World} {la lc ls : Nat → Bool} {U V : Nat → Value} {B : Nat → Nat} {s : Nat → Bool} {a : Nat → Option Addr} {n c : Nat → Nat} {z : Nat → Int} (h : Fan K w0 la lc ls U V B s a n c z w) {k : Nat} (hk : k < K) (hlc : lc k = false)
 {s' : Bool} {a' : Option Addr} {n' c' : Nat} {z' : Int} (hN : IsN w' s' a' n' z') (h6 : n' ≤ 6) (hf : n' = 0 ∨ Fresh w a') (hg : Below w.heap.size w w') :
 Fan K w0 la (upd lc k true) ls U (upd V k (.agg #[.bool s', .slice a' n' c'])) B (upd s k s') (upd a k a') (upd n k n') (upd c k c') (upd z k z') w' := by
 have hls : ls k = false := by
  cases hs : ls k with
  | false => rfl
  | true => rw [(h.ord k hk hs).2] at hlc; cases hlc
 have hold : ∀ j, j ≠ k → upd lc k true j = true → lc j = true := fun j hj e => by rwa [upd_ne _ _ hj] at e
 refine { below := h.below.trans (hg.mono h.below.size), var := h.var, box0 := fun j hj e e' => ?_, box1 := fun j hj e e' => ?_, apart := h.apart, num := fun j hj e => ?_, off := fun i j hi hj e1 e2 => ?_, ord := fun j hj e => ?_ }
 · have := h.box0 j hj e e'; exact this.below hg this.lt
 · have ej : j ≠ k := fun ej => by subst ej; rw [hls] at e'; cases e'
   rw [upd_ne _ _ ej, upd_ne _ _ ej, upd_ne _ _ ej, upd_ne _ _ ej]
   have := h.box1 j hj e e'; exact this.below hg this.lt
 · by_cases ej : j = k
   · subst ej
     rw [upd_same, upd_same, upd_same, upd_same, upd_same, upd_same]
     exact ⟨rfl, hN, h6, hf.imp id fun hf ad e => Nat.le_trans h.below.size (hf ad e)⟩
   · rw [upd_ne _ _ ej, upd_ne _ _ ej, upd_ne _ _ ej, upd_ne _ _ ej, upd_ne _ _ ej, upd_ne _ _ ej]
     obtain ⟨h1, h2, h3, h4⟩ := h.num j hj (hold j ej e)
     exact ⟨h1, h2.below hg, h3, h4⟩
 · by_cases ei : i = k
   · subst ei
     rw [upd_same, upd_same]
     have := h.lt hj e2
     exact hf.imp id fun hf ad e => by have := hf ad e; omega
   · rw [upd_ne _ _ ei, upd_ne _ _ ei]; exact h.off i j hi hj (hold i ei e1) e2
 · obtain ⟨h1, h2⟩ := h.ord j hj e
   refine ⟨h1, ?_⟩
   by_cases ej : j = k
   · rw [upd_eq _ _ ej]
   · rw [upd_ne _ _ ej]; exact h2
end Go.Proofs.YtgenaicmjddjcaaGreatDoor

/- Small laws of right Nums: equal ones are the same, absolute values, bounds of sums and products, order. -/
namespace Go.Proofs.YtgenaicmjddjcaaGreatDoor
open Go.RowKit Go.Shelf

theorem same_eq (s1 s2 : Bool) (a1 a2 : Option Addr) (n1 n2 c1 c2 : Nat) (z : Int) (hn : n1 ≤ 64) (w : World) (h1 : IsN w s1 a1 n1 z) (h2 : IsN w s2 a2 n2 z) :
 Calls Tryz.prog 15 #[.agg #[.bool s1, .slice a1 n1 c1], .agg #[.bool s2, .slice a2 n2 c2]] w fun e w' => e = .returned (.bool true) ∧ Below w.heap.size w w' := by
 obtain rfl : s2 = s1 := h2.sign.trans h1.sign.symm
 obtain rfl : n2 = n1 := h2.dig.len.trans h1.dig.len.symm
 exact same_yes s2 a1 a2 n2 c1 c2 (dgt z.natAbs) (by omega) w h1.dig.dig h2.dig.dig
end Go.Proofs.YtgenaicmjddjcaaGreatDoor

