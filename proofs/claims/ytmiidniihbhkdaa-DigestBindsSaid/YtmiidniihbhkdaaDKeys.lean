/- The law DigestKeys is true. -/
import Derived.Test.YtmiidniihbhkdaaDHelp
import Derived.Deep.RegionHeld3
import Derived.Outline
namespace Go.Proofs.Ytmiidniihbhkdaa
open Go.RowKit

theorem chg_len (i b : Nat) (t s : List UInt8) (h : s.length ≤ 60) : (chg i b t s).length ≤ 64 := by
  rw [chg, List.length_append, List.length_set, List.length_take]; omega
theorem len60 (s : ByteArray) : ((bs s).take 60).length ≤ 60 := by rw [List.length_take]; omega

theorem check_l (k m x : List UInt8) (r : Bool) (hr : chk k m x = r) (hk : k.length ≤ 1000) (hm : m.length ≤ 1000) (hx : x.length ≤ 1000) (w : World) : Calls Try.prog 18 #[str k, str m, str x] w fun e w' => e = .returned (.bool r) ∧ Below w.heap.size w w' := by
  subst hr
  exact check_any _ _ _ (le_of_small hk) (le_of_small hm) (le_of_small hx) w
theorem mark_l (k m : List UInt8) (hk : k.length ≤ 1000) (hm : m.length ≤ 1000) (w : World) : Calls Try.prog 17 #[str k, str m] w fun e w' => e = .returned (str (dMark k m)) ∧ Below w.heap.size w w' := mark_any _ _ (le_of_small hk) (le_of_small hm) w
theorem le_of_small' {l : List UInt8} (h : l.length ≤ 1000) : (⟨l.toArray⟩ : ByteArray).size ≤ 274877906944 := by rw [size_mk]; omega
theorem refMark_l (k m : List UInt8) (hk : k.length ≤ 1000) (hm : m.length ≤ 1000) (w : World) : Calls Try.prog 12 #[str k, str m] w fun e w' => e = .returned (str (dMark k m)) ∧ Below w.heap.size w w' := refMark_any _ (le_of_small' hk) _ (le_of_small' hm) w
theorem change_l (i b : Nat) (hi : i < 256) (hb : b < 256) (t : ByteArray) (ht : t.size ≤ 9223372036854775807) (l : List UInt8) (hl : l.length ≤ 1000) (w : World) :
    Calls Try.prog 11 #[.agg #[.int .u8 (i : Int), .int .u8 (b : Int), .string t], str l] w fun e w' => e = .returned (str (chg i b (bs t) l)) ∧ Below w.heap.size w w' := of_change i b hi hb t _ ht (by rw [size_mk]; exact hl) w
theorem mark_len (k m : List UInt8) : (dMark k m).length = 8 := rfl
theorem chk_self {k m : List UInt8} (h : k.isEmpty = false) : chk k m (dMark k m) = true := by rw [chk_ne h]; exact beq_self_eq_true _
theorem chk_long {k m x : List UInt8} (h : ¬ x.length = 8) : chk k m x = false := by
  have : ¬ x = dMark k m := fun e => h (by rw [e]; rfl)
  simp [chk, this]

/-- three cells of a change -/
def Chg3 (w : World) (B : Nat) (i b : Nat) (t : ByteArray) : Prop := w.cell? ⟨B, 0, none⟩ = some (.int .u8 (i : Int)) ∧ w.cell? ⟨B, 1, none⟩ = some (.int .u8 (b : Int)) ∧ w.cell? ⟨B, 2, none⟩ = some (.string t)
theorem Chg3.below {w w' : World} {B C : Nat} {i b : Nat} {t : ByteArray} (h : Chg3 w B i b t) (hb : Below C w w') (hB : B < C) : Chg3 w' B i b t :=
  ⟨(hb.cell (p := ⟨B, 0, none⟩) hB).trans h.1, (hb.cell (p := ⟨B, 1, none⟩) hB).trans h.2.1, (hb.cell (p := ⟨B, 2, none⟩) hB).trans h.2.2⟩
theorem Chg3.drew {w : World} {B : Nat} {i b : Nat} {t : ByteArray} (h : Chg3 w B i b t) : Chg3 w.drew B i b t := h
theorem Chg3.lt {w : World} {B : Nat} {i b : Nat} {t : ByteArray} (h : Chg3 w B i b t) : B < w.heap.size := lt_of_cell h.1
theorem Chg3.new (w : World) (i b : Nat) (t : ByteArray) (T : TypeId) : Chg3 (w.alloc (.cells #[.int .u8 (i : Int), .int .u8 (b : Int), .string t] T)) w.heap.size i b t := ⟨by simp [go_sem], by simp [go_sem], by simp [go_sem]⟩

theorem both3 {w : World} {B C : Nat} {ic bc id bd : Nat} {tc td : ByteArray} (c : Chg3 w B ic bc tc) (d : Chg3 w C id bd td) : w.cell? ⟨B, 0, none⟩ = some (.int .u8 (ic : Int)) ∧ w.cell? ⟨B, 1, none⟩ = some (.int .u8 (bc : Int)) ∧ w.cell? ⟨B, 2, none⟩ = some (.string tc) ∧ w.cell? ⟨C, 0, none⟩ = some (.int .u8 (id : Int)) ∧ w.cell? ⟨C, 1, none⟩ = some (.int .u8 (bd : Int)) ∧ w.cell? ⟨C, 2, none⟩ = some (.string td) := ⟨c.1, c.2.1, c.2.2, d.1, d.2.1, d.2.2⟩

set_option maxRecDepth 100000 in
set_option maxHeartbeats 4000000 in
theorem keys_true (key msg tc td : ByteArray) (ic bc id bd : Nat) (hic : ic < 256) (hbc : bc < 256) (hid : id < 256) (hbd : bd < 256) (hk : key.size ≤ 9223372036854775807) (hm : msg.size ≤ 9223372036854775807)
    (htc : tc.size ≤ 9223372036854775807) (htd : td.size ≤ 9223372036854775807) (w : World) :
    Calls Try.prog 6 #[.string key, .string msg, .agg #[.int .u8 (ic : Int), .int .u8 (bc : Int), .string tc], .agg #[.int .u8 (id : Int), .int .u8 (bd : Int), .string td]] w
      fun e w' => e = .returned (.bool true) ∧ Below w.heap.size w w' := by
  have c0 := (Chg3.new w ic bc tc 23)
  have c1 := c0.below ((Below.refl _ _).alloc (Nat.le_refl _) (.cells #[.int .u8 (id : Int), .int .u8 (bd : Int), .string td] 23)) c0.lt
  have d1 := Chg3.new (w.alloc (.cells #[.int .u8 (ic : Int), .int .u8 (bc : Int), .string tc] 23)) id bd td 23
  rw [World.size_alloc] at d1
  have B0 : Below w.heap.size w ((w.alloc (.cells #[.int .u8 (ic : Int), .int .u8 (bc : Int), .string tc] 23)).alloc (.cells #[.int .u8 (id : Int), .int .u8 (bd : Int), .string td] 23)) := ((Below.refl _ w).alloc (Nat.le_refl _) _).alloc (by simp) _
  clear c0
  go_enter Try.func6, Try.ntmps6
  go_wp2_with fail
  generalize (w.alloc (.cells #[.int .u8 (ic : Int), .int .u8 (bc : Int), .string tc] 23)).alloc (.cells #[.int .u8 (id : Int), .int .u8 (bd : Int), .string td] 23) = W0 at c1 d1 B0 ⊢
  refine (sanity_true W0).mono ?_
  rintro e w1 ⟨rfl, hb1⟩
  have c2 := c1.below hb1 c1.lt
  have d2 := d1.below hb1 d1.lt
  have B1 := B0.trans (hb1.mono B0.size)
  clear c1 d1 hb1
  go_wp2_with fail
  refine (short_any key hk _).mono ?_
  rintro e w' ⟨rfl, rfl⟩
  go_wp2_with fail
  refine (short_any msg hm _).mono ?_
  rintro e w' ⟨rfl, rfl⟩
  have hk6 := len60 key
  have hm6 := len60 msg
  generalize (bs key).take 60 = k at hk6 ⊢
  generalize (bs msg).take 60 = m at hm6 ⊢
  cases hke : k.isEmpty with
  | true =>
    go_wp2_with fail
    refine (mark_l k m (by omega) (by omega) _).mono ?_
    rintro e w2 ⟨rfl, hb2⟩
    go_wp2_with fail
    refine (check_l k m (dMark k m) false (chk_nil hke) (by omega) (by omega) (by rw [mark_len]; omega) _).mono ?_
    rintro e w3 ⟨rfl, hb3⟩
    go_wp2
    go_ret
    exact ⟨rfl, (B1.trans (hb2.mono B1.size)).trans (hb3.mono (Nat.le_trans B1.size hb2.size))⟩
  | false =>
    go_wp2_with fail
    refine (mark_l k m (by omega) (by omega) _).mono ?_
    rintro e w2 ⟨rfl, hb2⟩
    have c3 := (c2.below hb2 c2.lt).drew
    have d3 := (d2.below hb2 d2.lt).drew
    have B2 := B1.trans (hb2.mono B1.size)
    have hk1 : k.length ≤ 1000 := by omega
    have hm1 : m.length ≤ 1000 := by omega
    go_wp2_with fail
    have K0 := both3 c3 d3
    go_region_held3 (fun w' => w'.cell? ⟨w.heap.size, 0, none⟩ = some (.int .u8 (ic : Int)) ∧ w'.cell? ⟨w.heap.size, 1, none⟩ = some (.int .u8 (bc : Int)) ∧ w'.cell? ⟨w.heap.size, 2, none⟩ = some (.string tc) ∧ w'.cell? ⟨w.heap.size + 1, 0, none⟩ = some (.int .u8 (id : Int)) ∧ w'.cell? ⟨w.heap.size + 1, 1, none⟩ = some (.int .u8 (bd : Int)) ∧ w'.cell? ⟨w.heap.size + 1, 2, none⟩ = some (.string td))
      (first | with_reducible exact K0 | with_reducible exact K1 | with_reducible exact K2 | go_keep)
      (first
        | (go_at_call 11; (with_reducible refine (change_l ic bc hic hbc tc htc k hk1 _).mono ?_); rintro e w3 ⟨rfl, hb3⟩; have c4 := c3.below hb3 c3.lt; have d4 := d3.below hb3 d3.lt; have K1 := both3 c4 d4)
        | (go_at_call 11; (with_reducible refine (change_l id bd hid hbd td htd m hm1 _).mono ?_); rintro e w4 ⟨rfl, hb4⟩; have c5 := c4.below hb4 c4.lt; have d5 := d4.below hb4 d4.lt; have K2 := both3 c5 d5))
    have B4 := (B2.trans (below_drewL (hb3.mono B2.size))).trans (hb4.mono (Nat.le_trans B2.size hb3.size))
    have ho6 := chg_len ic bc (bs tc) k hk6
    have ht6 := chg_len id bd (bs td) m hm6
    clear K0 K1 K2 c2 d2 c3 d3 c4 d4 c5 d5 hb2 hb3 hb4
    generalize chg ic bc (bs tc) k = o at ho6 ⊢
    generalize chg id bd (bs td) m = t at ht6 ⊢
    obtain ⟨E, hE⟩ : ∃ E, (dMark o t == dMark k m) = E := ⟨_, rfl⟩
    obtain ⟨N, hN⟩ : ∃ N, o.isEmpty = N := ⟨_, rfl⟩
    have hchk : chk o t (dMark k m) = (!N && E) := by
      rw [chk, hN, BEq.comm, hE]
    have HK := hide hchk
    clear hchk
    have hx9 : chk k m (dMark k m ++ [120]) = false := chk_long (by rw [List.length_append, mark_len]; simp)
    have HX := hide hx9
    clear hx9
    cases E <;> cases N
    all_goals
      go_wp2_with fail
      refine (refMark_l o t (by omega) (by omega) _).mono ?_
      rintro e w5 ⟨rfl, hb5⟩
      go_wp2_with fail
      refine (check_l k m (dMark k m) true (chk_self hke) hk1 hm1 (by rw [mark_len]; omega) _).mono ?_
      rintro e w6 ⟨rfl, hb6⟩
      go_wp2_with fail
      rw [mk_append]
      refine (check_l k m (dMark k m ++ [120]) false HX.out hk1 hm1 (by rw [List.length_append, mark_len]; simp) _).mono ?_
      rintro e w7 ⟨rfl, hb7⟩
      go_wp2_with fail
      refine (check_l o t (dMark k m) _ HK.out (by omega) (by omega) (by rw [mark_len]; omega) _).mono ?_
      rintro e w8 ⟨rfl, hb8⟩
      have B5 := B4.trans (hb5.mono B4.size)
      have B6 := B5.trans (hb6.mono B5.size)
      have B7 := B6.trans (hb7.mono B6.size)
      go_wp2
      go_ret
      exact ⟨rfl, B7.trans (hb8.mono B7.size)⟩
end Go.Proofs.Ytmiidniihbhkdaa
