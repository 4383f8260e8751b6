/- The reference's word, Int and Cmp of any Nums. -/
import Derived.Test.YtmpdeiopdempcaaGreatDoorRfA
import Derived.Test.YtmpdeiopdempcaaGreatDoorAdM
namespace Go.Proofs.YtmpdeiopdempcaaGreatDoor
open Go.RowKit Go.Shelf

theorem rright_yes (s : Bool) (a : Option Addr) (n cap : Nat) (z : Int) (hn : n ≤ 64) (w : World) (h : IsN w s a n z) :
    Calls Tryz.prog 37 #[.agg #[.bool s, .slice a n cap]] w fun e w' => e = .returned (.bool true) ∧ Below w.heap.size w w' := rright_arg s a n cap (some z) w ⟨h, hn⟩

set_option maxRecDepth 100000 in
set_option maxHeartbeats 2000000 in
theorem rword_any (a : Option Addr) (L cap : Nat) (f : Nat → Nat) (hL : L ≤ 2) (hf : ∀ j, j < L → f j < 4294967296) (w : World) (hd : Dig w a L f) :
    Calls Tryz.prog 64 #[.slice a L cap] w fun e w' => e = .returned (.int .u64 ((valF f L : Nat) : Int)) ∧ Below w.heap.size w w' := by
  go_enter Tryz.func64, Tryz.ntmps64
  go_wp2_with fail
  go_loopw [3, 4] (fun nv i wr => ∃ k : Nat, k ≤ L ∧ i = .int .i64 (k : Int) ∧ nv = .int .u64 ((valF f k : Nat) : Int) ∧ wr = w) (fun _ i _ => L - (intOf i).toNat)
  case atStart => exact ⟨0, Nat.zero_le _, rfl, rfl, rfl⟩
  case round =>
    obtain ⟨k, hk, rfl, rfl, hwr⟩ := hrel
    rw [hwr]
    clear hwr
    by_cases hlt : k < L
    · obtain ⟨b, off, rfl, hc⟩ := hd.at (by omega)
      have hx := hc k hlt
      have hfk := hf k hlt
      have hk' : (k : Int) < L := by omega
      rcases (by omega : k = 0 ∨ k = 1) with rfl | rfl
      · have hx0 : w.cell? ⟨b, off, none⟩ = some (.int .u32 ((f 0 : Nat) : Int)) := hx
        rw [valF_zero, show ((0 : Nat) : Int) = 0 from rfl] at *
        clear hc hx
        go_wp2
        go_roundw
        case rel => exact ⟨1, by omega, rfl, by simp [valF_succ, valF_zero, bp_zero], trivial⟩
        case measure => simp [intOf]; omega
      · have hv : valF f 1 < 4294967296 := by
          have h0 := hf 0 (by omega)
          simpa [valF_succ, valF_zero, bp_zero] using h0
        have e2 : ((valF f 1 : Nat) : Int) + ((f 1 : Nat) : Int) * 4294967296 = ((valF f 2 : Nat) : Int) := by
          rw [valF_succ f 1, bp_one]; omega
        have HE := hide e2
        rw [show ((1 : Nat) : Int) = 1 from rfl] at *
        clear hc e2
        go_wp2
        go_roundw
        case rel => exact ⟨2, by omega, rfl, by rw [← HE.out], trivial⟩
        case measure => simp [intOf]; omega
    · obtain rfl : k = L := by omega
      go_wp2
      go_ret
      exact ⟨rfl, Below.refl _ _⟩

set_option maxRecDepth 100000 in
set_option maxHeartbeats 1000000 in
theorem rint_fit (s : Bool) (a : Option Addr) (n cap : Nat) (z : Int) (h0 : -9223372036854775808 ≤ z) (h1 : z ≤ 9223372036854775807) (w : World) (h : IsN w s a n z) :
    Calls Tryz.prog 36 #[.agg #[.bool s, .slice a n cap]] w fun e w' => e = .returned (.tuple #[.int .i64 z, .bool true]) ∧ Below w.heap.size w w' := by
  have hn2 : n ≤ 2 := by rw [h.dig.len]; exact dlen_le_two (by omega)
  have hb0 : Below w.heap.size w (w.alloc (.cells #[.bool s, .slice a n cap] 27)) := (Below.refl _ w).alloc (Nat.le_refl _) _
  have hv : valF (dgt z.natAbs) n = z.natAbs := by rw [h.dig.len, valF_dlen]
  have HV := hide hv
  have HB0 := hide hb0
  have hn2' : (n : Int) ≤ 2 := by omega
  clear hv hb0
  by_cases hz : z < 0
  · obtain rfl : s = true := by rw [h.sign]; simp [hz]
    go_enter Tryz.func36, Tryz.ntmps36
    go_wp2_with fail
    refine (rright_yes true a n cap z (by omega) _ (h.below HB0.out)).mono ?_
    rintro e w1 ⟨rfl, hb⟩
    have c0 : w1.cell? ⟨w.heap.size, 0, none⟩ = some (.bool true) := (hb.cell (p := ⟨w.heap.size, 0, none⟩) (by simp)).trans (by simp [go_sem])
    have c1 : w1.cell? ⟨w.heap.size, 1, none⟩ = some (.slice a n cap) := (hb.cell (p := ⟨w.heap.size, 1, none⟩) (by simp)).trans (by simp [go_sem])
    have hB1 : Below w.heap.size w w1 := HB0.out.trans (hb.mono (by simp))
    go_wp2_with fail
    refine (rword_any a n cap (dgt z.natAbs) hn2 (fun _ _ => dgt_lt _ _) _ (h.dig.dig.below hB1)).mono ?_
    rintro e w2 ⟨rfl, hb2⟩
    have c0' := (hb2.cell (p := ⟨w.heap.size, 0, none⟩) (lt_of_cell c0)).trans c0
    rw [HV.out]
    go_wp2
    go_ret2
    refine ⟨?_, hB1.trans (hb2.mono hB1.size)⟩
    have hw : wrap64 (IntKind.u64.wrap (-(z.natAbs : Int))) = z := by
      have e : IntKind.u64.wrap (-(z.natAbs : Int)) = (-(z.natAbs : Int)) % 18446744073709551616 := by simp [IntKind.wrap, IntKind.bits, IntKind.signed]
      rw [e]; unfold wrap64; omega
    simp [hw]
  · obtain rfl : s = false := by rw [h.sign]; simp [hz]
    go_enter Tryz.func36, Tryz.ntmps36
    go_wp2_with fail
    refine (rright_yes false a n cap z (by omega) _ (h.below HB0.out)).mono ?_
    rintro e w1 ⟨rfl, hb⟩
    have c0 : w1.cell? ⟨w.heap.size, 0, none⟩ = some (.bool false) := (hb.cell (p := ⟨w.heap.size, 0, none⟩) (by simp)).trans (by simp [go_sem])
    have c1 : w1.cell? ⟨w.heap.size, 1, none⟩ = some (.slice a n cap) := (hb.cell (p := ⟨w.heap.size, 1, none⟩) (by simp)).trans (by simp [go_sem])
    have hB1 : Below w.heap.size w w1 := HB0.out.trans (hb.mono (by simp))
    go_wp2_with fail
    refine (rword_any a n cap (dgt z.natAbs) hn2 (fun _ _ => dgt_lt _ _) _ (h.dig.dig.below hB1)).mono ?_
    rintro e w2 ⟨rfl, hb2⟩
    have c0' := (hb2.cell (p := ⟨w.heap.size, 0, none⟩) (lt_of_cell c0)).trans c0
    rw [HV.out]
    have hlt : ((z.natAbs : Nat) : Int) < 9223372036854775808 := by omega
    go_wp2
    go_ret2
    exact ⟨by simp; omega, hB1.trans (hb2.mono hB1.size)⟩

set_option maxRecDepth 100000 in
set_option maxHeartbeats 1000000 in
theorem rint_unfit (s : Bool) (a : Option Addr) (n cap : Nat) (z : Int) (hn : n ≤ 64) (hz : z < -9223372036854775808 ∨ 9223372036854775807 < z) (w : World) (h : IsN w s a n z) :
    Calls Tryz.prog 36 #[.agg #[.bool s, .slice a n cap]] w fun e w' => e = .returned (.tuple #[.int .i64 0, .bool false]) ∧ Below w.heap.size w w' := by
  have hb0 : Below w.heap.size w (w.alloc (.cells #[.bool s, .slice a n cap] 27)) := (Below.refl _ w).alloc (Nat.le_refl _) _
  have HB0 := hide hb0
  clear hb0
  by_cases hn2 : n ≤ 2
  · have hv : valF (dgt z.natAbs) n = z.natAbs := by rw [h.dig.len, valF_dlen]
    have HV := hide hv
    have hn2' : (n : Int) ≤ 2 := by omega
    have hs := h.sign
    clear hv
    rcases hz with hz | hz
    · obtain rfl : s = true := by rw [hs]; simp; omega
      have hbig : (9223372036854775808 : Int) < (z.natAbs : Int) := by omega
      clear hs
      go_enter Tryz.func36, Tryz.ntmps36
      go_wp2_with fail
      refine (rright_yes true a n cap z (by omega) _ (h.below HB0.out)).mono ?_
      rintro e w1 ⟨rfl, hb⟩
      have c0 : w1.cell? ⟨w.heap.size, 0, none⟩ = some (.bool true) := (hb.cell (p := ⟨w.heap.size, 0, none⟩) (by simp)).trans (by simp [go_sem])
      have c1 : w1.cell? ⟨w.heap.size, 1, none⟩ = some (.slice a n cap) := (hb.cell (p := ⟨w.heap.size, 1, none⟩) (by simp)).trans (by simp [go_sem])
      have hB1 : Below w.heap.size w w1 := HB0.out.trans (hb.mono (by simp))
      go_wp2_with fail
      refine (rword_any a n cap (dgt z.natAbs) hn2 (fun _ _ => dgt_lt _ _) _ (h.dig.dig.below hB1)).mono ?_
      rintro e w2 ⟨rfl, hb2⟩
      have c0' := (hb2.cell (p := ⟨w.heap.size, 0, none⟩) (lt_of_cell c0)).trans c0
      rw [HV.out]
      go_wp2
      go_ret2
      exact ⟨by simp, hB1.trans (hb2.mono hB1.size)⟩
    · obtain rfl : s = false := by rw [hs]; simp; omega
      have hge : (9223372036854775808 : Int) ≤ ((z.natAbs : Nat) : Int) := by omega
      have hnlt : (((z.natAbs : Nat) : Int) < 9223372036854775808) = False := by simp only [eq_iff_iff, iff_false]; omega
      have hbig : (9223372036854775807 : Int) < (z.natAbs : Int) := by omega
      clear hs
      go_enter Tryz.func36, Tryz.ntmps36
      go_wp2_with fail
      refine (rright_yes false a n cap z (by omega) _ (h.below HB0.out)).mono ?_
      rintro e w1 ⟨rfl, hb⟩
      have c0 : w1.cell? ⟨w.heap.size, 0, none⟩ = some (.bool false) := (hb.cell (p := ⟨w.heap.size, 0, none⟩) (by simp)).trans (by simp [go_sem])
      have c1 : w1.cell? ⟨w.heap.size, 1, none⟩ = some (.slice a n cap) := (hb.cell (p := ⟨w.heap.size, 1, none⟩) (by simp)).trans (by simp [go_sem])
      have hB1 : Below w.heap.size w w1 := HB0.out.trans (hb.mono (by simp))
      go_wp2_with fail
      refine (rword_any a n cap (dgt z.natAbs) hn2 (fun _ _ => dgt_lt _ _) _ (h.dig.dig.below hB1)).mono ?_
      rintro e w2 ⟨rfl, hb2⟩
      have c0' := (hb2.cell (p := ⟨w.heap.size, 0, none⟩) (lt_of_cell c0)).trans c0
      rw [HV.out]
      go_wp2
      go_ret2
      exact ⟨by simp, hB1.trans (hb2.mono hB1.size)⟩
  · have hn2' : (2 : Int) < n := by omega
    go_enter Tryz.func36, Tryz.ntmps36
    go_wp2_with fail
    refine (rright_yes s a n cap z (by omega) _ (h.below HB0.out)).mono ?_
    rintro e w1 ⟨rfl, hb⟩
    have c0 : w1.cell? ⟨w.heap.size, 0, none⟩ = some (.bool s) := (hb.cell (p := ⟨w.heap.size, 0, none⟩) (by simp)).trans (by simp [go_sem])
    have c1 : w1.cell? ⟨w.heap.size, 1, none⟩ = some (.slice a n cap) := (hb.cell (p := ⟨w.heap.size, 1, none⟩) (by simp)).trans (by simp [go_sem])
    have hB1 : Below w.heap.size w w1 := HB0.out.trans (hb.mono (by simp))
    go_wp2
    go_ret2
    exact ⟨by simp, hB1⟩

set_option maxRecDepth 100000 in
set_option maxHeartbeats 2000000 in
theorem rint_no (s : Bool) (a : Option Addr) (n c : Nat) (w : World) (ha : Arg w s a n none) :
    Calls Tryz.prog 36 #[.agg #[.bool s, .slice a n c]] w (IntPost w none) := by
  have HB0 := hide (below_alloc' w (Obj.cells #[Value.bool s, Value.slice a n c] 27))
  go_enter Tryz.func36, Tryz.ntmps36
  go_wp2_with fail
  refine (rright_arg s a n c none _ (ha.below HB0.out)).mono ?_
  rintro e w1 ⟨rfl, hb⟩
  have hB1 := HB0.out.trans (hb.mono HB0.out.size)
  go_wp2
  go_ret2
  exact ⟨rfl, hB1⟩
theorem rint_arg (s : Bool) (a : Option Addr) (n c : Nat) (x : Option Int) (w : World) (ha : Arg w s a n x) :
    Calls Tryz.prog 36 #[.agg #[.bool s, .slice a n c]] w (IntPost w (intO x)) := by
  cases x with
  | none => exact rint_no s a n c w ha
  | some z =>
    by_cases hz : -9223372036854775808 ≤ z ∧ z ≤ 9223372036854775807
    · rw [show intO (some z) = some z from if_pos hz]; exact rint_fit s a n c z hz.1 hz.2 w ha.1
    · rw [show intO (some z) = none from if_neg hz]; exact rint_unfit s a n c z ha.2 (by omega) w ha.1

set_option maxRecDepth 100000 in
set_option maxHeartbeats 2000000 in
theorem rcmp_any (sa sb : Bool) (aa ab : Option Addr) (na nb ca cb : Nat) (za zb : Int) (hna : na ≤ 64) (hnb : nb ≤ 64) (w : World) (ha : IsN w sa aa na za) (hb : IsN w sb ab nb zb) :
    Calls Tryz.prog 38 #[.agg #[.bool sa, .slice aa na ca], .agg #[.bool sb, .slice ab nb cb]] w fun e w' => e = .returned (.int .i64 (cmpZ za zb)) ∧ Below w.heap.size w w' := by
  have hpost : (sa = true ∧ sb = true ∧ cmpN zb.natAbs za.natAbs = cmpZ za zb) ∨ (sa = true ∧ sb = false ∧ cmpZ za zb = -1) ∨ (sa = false ∧ sb = true ∧ cmpZ za zb = 1) ∨ (sa = false ∧ sb = false ∧ cmpN za.natAbs zb.natAbs = cmpZ za zb) := by
    have h1 := ha.sign
    have h2 := hb.sign
    cases sa <;> cases sb
    · have e1 : ¬ za < 0 := by intro h; simp [h] at h1
      have e2 : ¬ zb < 0 := by intro h; simp [h] at h2
      refine .inr (.inr (.inr ⟨rfl, rfl, ?_⟩)); rw [cmpN_cast]; congr 1 <;> omega
    · have e1 : ¬ za < 0 := by intro h; simp [h] at h1
      have e2 : zb < 0 := by simpa using h2.symm
      refine .inr (.inr (.inl ⟨rfl, rfl, ?_⟩)); unfold cmpZ; rw [if_neg (by omega), if_neg (by omega)]
    · have e1 : za < 0 := by simpa using h1.symm
      have e2 : ¬ zb < 0 := by intro h; simp [h] at h2
      refine .inr (.inl ⟨rfl, rfl, ?_⟩); unfold cmpZ; rw [if_pos (by omega)]
    · have e1 : za < 0 := by simpa using h1.symm
      have e2 : zb < 0 := by simpa using h2.symm
      refine .inl ⟨rfl, rfl, ?_⟩; rw [cmpN_cast, ← cmpZ_neg]; congr 1 <;> omega
  have HLA := hide ha.dig.len
  have HLB := hide hb.dig.len
  go_enter Tryz.func38, Tryz.ntmps38
  go_wp2_with fail
  obtain ⟨W0, hW0⟩ : ∃ W0, (w.alloc (Obj.cells #[Value.bool sa, Value.slice aa na ca] 27)).alloc (Obj.cells #[Value.bool sb, Value.slice ab nb cb] 27) = W0 := ⟨_, rfl⟩
  have bA : Box2 W0 w.heap.size (.bool sa) (.slice aa na ca) := by rw [← hW0]; exact (Box2.new w _ _ _).alloc _
  have bB : Box2 W0 (w.heap.size + 1) (.bool sb) (.slice ab nb cb) := by
    have := Box2.new (w.alloc (Obj.cells #[Value.bool sa, Value.slice aa na ca] 27)) (.bool sb) (.slice ab nb cb) 27
    rw [World.size_alloc] at this; rw [← hW0]; exact this
  have hsz : W0.heap.size = w.heap.size + 2 := by rw [← hW0]; simp
  have hB0 : Below w.heap.size w W0 := by rw [← hW0]; exact ((Below.refl _ w).alloc (Nat.le_refl _) _).alloc (by simp) _
  rw [hW0]
  clear hW0
  refine (rright_yes sa aa na ca za hna _ (ha.below hB0)).mono ?_
  rintro e w1 ⟨rfl, hb1⟩
  have hB1 : Below w.heap.size w w1 := hB0.trans (hb1.mono (by omega))
  have bA1 := bA.below hb1 (by omega)
  have bB1 := bB.below hb1 (by omega)
  obtain ⟨b0, b1, -, -⟩ := bB1
  go_wp2_with fail
  refine (rright_yes sb ab nb cb zb hnb _ (hb.below hB1)).mono ?_
  rintro e w2 ⟨rfl, hb2⟩
  have hB2 : Below w.heap.size w w2 := hB1.trans (hb2.mono hB1.size)
  have bA2 := bA1.below hb2 (by have := hb1.size; omega)
  have bB2 := bB.below (hb1.trans (hb2.mono hb1.size)) (by omega)
  clear b0 b1
  have bA2k := bA2
  have bB2k := bB2
  obtain ⟨a0, a1, -, -⟩ := bA2
  obtain ⟨b0, b1, -, -⟩ := bB2
  have hda := (ha.dig.below hB2).dig
  have hdb := (hb.dig.below hB2).dig
  have HAB := hide (And.intro hda hdb)
  clear hda hdb
  rcases hpost with ⟨rfl, rfl, hp⟩ | ⟨rfl, rfl, hp⟩ | ⟨rfl, rfl, hp⟩ | ⟨rfl, rfl, hp⟩
  · have HP := hide hp
    clear hp
    go_wp2_with fail
    have hcall := rcompare_any ab aa zb.natAbs za.natAbs nb na cb ca (by omega) w2 ⟨HLB.out, HAB.out.2⟩ ⟨HLA.out, HAB.out.1⟩
    refine hcall.mono ?_
    rintro e w3 ⟨rfl, hb3⟩
    rw [HP.out]
    clear hcall
    go_wp2
    go_ret
    exact ⟨rfl, hB2.trans (hb3.mono hB2.size)⟩
  · have HP := hide hp
    clear hp
    go_wp2
    go_ret
    exact ⟨by rw [HP.out]; rfl, hB2⟩
  · have HP := hide hp
    clear hp
    go_wp2
    go_ret
    exact ⟨by rw [HP.out]; rfl, hB2⟩
  · have HP := hide hp
    clear hp
    go_wp2_with fail
    have hcall := rcompare_any aa ab za.natAbs zb.natAbs na nb ca cb (by omega) w2 ⟨HLA.out, HAB.out.1⟩ ⟨HLB.out, HAB.out.2⟩
    refine hcall.mono ?_
    rintro e w3 ⟨rfl, hb3⟩
    rw [HP.out]
    clear hcall
    go_wp2
    go_ret
    exact ⟨rfl, hB2.trans (hb3.mono hB2.size)⟩
set_option maxRecDepth 100000 in
set_option maxHeartbeats 2000000 in
theorem rcmp_no_a (sa sb : Bool) (aa ab : Option Addr) (na nb ca cb : Nat) (w : World) (ha : Arg w sa aa na none) :
    Calls Tryz.prog 38 #[.agg #[.bool sa, .slice aa na ca], .agg #[.bool sb, .slice ab nb cb]] w fun e w' => e = .returned (.int .i64 0) ∧ Below w.heap.size w w' := by
  have hB0 : Below w.heap.size w ((w.alloc (Obj.cells #[Value.bool sa, Value.slice aa na ca] 27)).alloc (Obj.cells #[Value.bool sb, Value.slice ab nb cb] 27)) := (below_alloc' _ _).trans ((below_alloc' _ _).mono (by simp))
  have HB0 := hide hB0
  clear hB0
  go_enter Tryz.func38, Tryz.ntmps38
  go_wp2_with fail
  refine (rright_arg sa aa na ca none _ (ha.below HB0.out)).mono ?_
  rintro e w1 ⟨rfl, hb1⟩
  have hB1 := HB0.out.trans (hb1.mono HB0.out.size)
  go_wp2
  go_ret
  exact ⟨rfl, hB1⟩
set_option maxRecDepth 100000 in
set_option maxHeartbeats 2000000 in
theorem rcmp_no_b (sa sb : Bool) (aa ab : Option Addr) (na nb ca cb : Nat) (z : Int) (w : World) (ha : Arg w sa aa na (some z)) (hb : Arg w sb ab nb none) :
    Calls Tryz.prog 38 #[.agg #[.bool sa, .slice aa na ca], .agg #[.bool sb, .slice ab nb cb]] w fun e w' => e = .returned (.int .i64 0) ∧ Below w.heap.size w w' := by
  have hB0 : Below w.heap.size w ((w.alloc (Obj.cells #[Value.bool sa, Value.slice aa na ca] 27)).alloc (Obj.cells #[Value.bool sb, Value.slice ab nb cb] 27)) := (below_alloc' _ _).trans ((below_alloc' _ _).mono (by simp))
  have bB : Box2 ((w.alloc (Obj.cells #[Value.bool sa, Value.slice aa na ca] 27)).alloc (Obj.cells #[Value.bool sb, Value.slice ab nb cb] 27)) (w.heap.size + 1) (.bool sb) (.slice ab nb cb) := by
    have := Box2.new (w.alloc (Obj.cells #[Value.bool sa, Value.slice aa na ca] 27)) (.bool sb) (.slice ab nb cb) 27
    rw [World.size_alloc] at this; exact this
  have HB0 := hide hB0
  have HBB := hide bB
  clear hB0 bB
  go_enter Tryz.func38, Tryz.ntmps38
  go_wp2_with fail
  refine (rright_arg sa aa na ca (some z) _ (ha.below HB0.out)).mono ?_
  rintro e w1 ⟨rfl, hb1⟩
  have hB1 := HB0.out.trans (hb1.mono HB0.out.size)
  obtain ⟨b0, b1, -, -⟩ := HBB.out.below hb1 HBB.out.lt
  go_wp2_with fail
  refine (rright_arg sb ab nb cb none _ (hb.below hB1)).mono ?_
  rintro e w2 ⟨rfl, hb2⟩
  have hB2 := hB1.trans (hb2.mono hB1.size)
  clear b0 b1
  go_wp2
  go_ret
  exact ⟨rfl, hB2⟩
theorem rcmp_arg (sa sb : Bool) (aa ab : Option Addr) (na nb ca cb : Nat) (x y : Option Int) (w : World) (ha : Arg w sa aa na x) (hb : Arg w sb ab nb y) :
    Calls Tryz.prog 38 #[.agg #[.bool sa, .slice aa na ca], .agg #[.bool sb, .slice ab nb cb]] w fun e w' => e = .returned (.int .i64 (cmpO x y)) ∧ Below w.heap.size w w' := by
  cases x with
  | none => exact rcmp_no_a sa sb aa ab na nb ca cb w ha
  | some z =>
    cases y with
    | none => exact rcmp_no_b sa sb aa ab na nb ca cb z w ha hb
    | some v => exact rcmp_any sa sb aa ab na nb ca cb z v ha.2 hb.2 w ha.1 hb.1
end Go.Proofs.YtmpdeiopdempcaaGreatDoor
