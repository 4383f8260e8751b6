/- The reference's Points, whose list has its length at most its capacity. -/
import Derived.Test.YtblnpelbklfloaaVPts
import Derived.OwnWalk
import Derived.Laws.AppendOwn
import Derived.Laws.OwnMore
import Derived.Deep.AppendLies
namespace Go.Proofs.Ytblnpelbklfloaa
open Go.RowKit

theorem own_varC {w : World} {base : Nat} {e : TypeId} {size : Nat} {v : Value} {n : Nat} {xs : List Value} (h : w.ownsRow base e size v n xs) (hn : n ≠ 0) : ∃ g cap, v = .slice (some ⟨g, 0, none⟩) n cap ∧ base ≤ g ∧ Var w g xs ∧ n ≤ cap := by
  obtain ⟨h1, h2⟩ := h
  rcases h2 with ⟨-, h2⟩ | ⟨g, cap, cur, hv, hg, hh, hc, hm, hs, ht⟩
  · exact absurd h2 hn
  · obtain ⟨g', cap', e', hg', hv'⟩ := own_var ⟨h1, .inr ⟨g, cap, cur, hv, hg, hh, hc, hm, hs, ht⟩⟩ hn
    have e2 := hv.symm.trans e'
    injection e2 with e3 e4 e5
    exact ⟨g', cap', e', hg', hv', e5 ▸ hc⟩

set_option maxRecDepth 100000 in
set_option maxHeartbeats 4000000 in
theorem points_rc (ao : Option Addr) (len cap n : Nat) (hlen : len ≤ 9223372036854775807) (hn0 : n ≠ 0) (hn : n ≤ 8) (w : World) (hl : Lst w ao len w.heap.size) :
    Calls Try.prog 11 #[.slice ao len cap, .int .i64 (n : Int)] w fun e w' => ∃ (g c : Nat) (xs : List Int), e = .returned (.slice (some ⟨g, 0, none⟩) n c) ∧ xs.length = n * 3 ∧ (∀ x ∈ xs, -24 ≤ x ∧ x ≤ 24) ∧ Var w' g (vals xs) ∧ w.heap.size ≤ g ∧ n ≤ c ∧ Below w.heap.size w w' := by
  obtain ⟨i0, hi, hz0, hz1, hz2⟩ := info_parts infoV
  have HI := hideV hi
  have HZ := hideV (And.intro hz0 (And.intro hz1 hz2))
  clear hi hz0 hz1 hz2
  go_enter Try.func11, Try.ntmps11
  have HN := hideV (And.intro hn0 hn)
  clear hn0 hn
  go_wp2_with fail
  have hs0 : Below w.heap.size w (w.alloc (.cells #[.slice ao len cap, .int .i64 0] 65)) := belowA _ _
  have d0 : Var (w.alloc (.cells #[.slice ao len cap, .int .i64 0] 65)) w.heap.size [.slice ao len cap, .int .i64 ((0 : Nat) : Int)] := Var.new w [.slice ao len cap, .int .i64 ((0 : Nat) : Int)] _
  obtain ⟨V0, hV0⟩ : ∃ V, w.alloc (.cells #[.slice ao len cap, .int .i64 0] 65) = V := ⟨_, rfl⟩
  rw [hV0] at d0 hs0
  try rw [hV0]
  clear hV0
  obtain ⟨S, hS⟩ : ∃ S, w.heap.size = S := ⟨_, rfl⟩
  rw [hS] at d0 hs0 hl
  have hH := d0.1
  obtain ⟨Hs, hHs⟩ : ∃ Hs, V0.heap.size = Hs := ⟨_, rfl⟩
  rw [hHs] at hH
  have hl := hl.low hs0
  have h0 := Nat.le_of_eq hHs.symm
  have HS := hideV hS
  clear hS hHs
  rw [HS.out]
  go_loopw [6, 7] (fun v i wr => ∃ (k at_ : Nat) (xs : List Int), k ≤ n ∧ i = .int .i64 (k : Int) ∧ Hid (wr.ownsRow Hs 23 3 v k (vals xs)) ∧ Hid (∀ x ∈ xs, -24 ≤ x ∧ x ≤ 24) ∧ Hid (xs.length = k * 3) ∧ Var wr S [.slice ao len cap, .int .i64 (at_ : Int)] ∧ Below S w wr ∧ Lst wr ao len S ∧ Hid (Hs ≤ wr.heap.size)) (fun _ i _ => n - (intOf i).toNat)
  case atStart => exact ⟨0, 0, [], Nat.zero_le _, rfl, World.ownsRow_nil _ _ _ _, nofun, rfl, d0, hs0, hl, h0⟩
  case round =>
    clear d0 hs0 hl h0
    obtain ⟨k, at_, xs, hk, rfl, ho, hx, hxl, d0, hB, hl, hh⟩ := hrel
    by_cases hlt : k < n
    · have hlt1 : (k : Int) < (n : Int) := by omega
      go_wp2_with fail
      have q := Var.new wr [.int .i64 8, .int .i64 8, .int .i64 3, .int .i64 24] 3
      replace q : Var (wr.alloc (.cells #[.int .i64 8, .int .i64 8, .int .i64 3, .int .i64 24] 3)) wr.heap.size [.int .i64 8, .int .i64 8, .int .i64 3, .int .i64 24] := q
      have hs1 := belowA wr (.cells #[.int .i64 8, .int .i64 8, .int .i64 3, .int .i64 24] 3)
      have o1 := hideV (World.ownsRow.alloc ho.out (.cells #[.int .i64 8, .int .i64 8, .int .i64 3, .int .i64 24] 3))
      obtain ⟨V1, hV1⟩ : ∃ V, wr.alloc (.cells #[.int .i64 8, .int .i64 8, .int .i64 3, .int .i64 24] 3) = V := ⟨_, rfl⟩
      rw [hV1] at q hs1 o1
      try rw [hV1]
      clear hV1 ho
      have d1 := d0.below hs1
      have hSw := d0.1
      have hl1 := hl.low (hs1.mono (Nat.le_of_lt hSw))
      have hB1 := hB.trans (hs1.mono (Nat.le_of_lt hSw))
      have hh1 : Hid (Hs ≤ V1.heap.size) := Nat.le_trans hh.out hs1.size
      have hqS : wr.heap.size ≠ S := by omega
      obtain ⟨bq, hbq⟩ : ∃ b, wr.heap.size = b := ⟨_, rfl⟩
      rw [hbq] at q hqS
      try rw [hbq]
      clear hbq hs1 d0 hl hB hh hSw
      refine (next_r S ao len cap at_ hlen S (Nat.le_refl _) 4 (by decide) (by decide) V1 d1 hl1).mono ?_
      rintro e V2 ⟨r, a2, rfl, r1, r2, d2, K2⟩
      obtain ⟨ρ, rfl⟩ := Int.eq_ofNat_of_zero_le r1
      have hρ : ρ < 4 := by omega
      have q2 := K2.var q (by simp; exact hqS)
      have o2 := hideV (own_keep o1.out K2 hH)
      have hl2 := hl1.keep K2 (Nat.le_refl _)
      have hB2 : Below S w V2 := hB1.trans (K2.low (B := S) (Nat.le_of_lt d1.1) (by intro b hb; simp at hb; omega))
      have hh2 : Hid (Hs ≤ V2.heap.size) := Nat.le_trans hh1.out K2.size
      obtain ⟨m, hm, hm2⟩ : ∃ m : Int, ([.int .i64 8, .int .i64 8, .int .i64 3, .int .i64 24] : List Value)[ρ]? = some (.int .i64 m) ∧ (1 ≤ m ∧ m ≤ 24) := by
        match ρ, hρ with
        | 0, _ | 1, _ => exact ⟨8, rfl, by decide, by decide⟩
        | 2, _ => exact ⟨3, rfl, by decide, by decide⟩
        | 3, _ => exact ⟨24, rfl, by decide, by decide⟩
      have hq := q2.at ρ hm
      have HM := hideV hm2
      clear d1 hl1 hB1 hh1 q o1 K2 hm hm2 r1 q2
      go_wp2_with fail
      refine (vec_r S ao len cap a2 hlen S (Nat.le_refl _) m HM.out.1 (by have := HM.out; omega) V2 d2 hl2).mono ?_
      rintro e V3 ⟨x, y, z, a3, rfl, hb, d3, K3⟩
      simp only [V]
      have o3 := own_keep o2.out K3 hH
      have hl3 := hl2.keep K3 (Nat.le_refl _)
      have hB3 : Below S w V3 := hB2.trans (K3.low (B := S) (Nat.le_of_lt d2.1) (by intro b hb; simp at hb; omega))
      have hh3 : Hs ≤ V3.heap.size := Nat.le_trans hh2.out K3.size
      have hx3 : Hid (∀ u ∈ xs ++ [x, y, z], -24 ≤ u ∧ u ≤ 24) := by
        have := HM.out
        intro u hu
        rcases List.mem_append.1 hu with hu | hu
        · exact hx.out u hu
        · simp at hu; rcases hu with rfl | rfl | rfl <;> omega
      have hxl3 : Hid ((xs ++ [x, y, z]).length = (k + 1) * 3) := by
        show _ = _
        rw [List.length_append, hxl.out]; simp; omega
      have hvals : Hid (vals xs ++ [.int .i64 x, .int .i64 y, .int .i64 z] = vals (xs ++ [x, y, z])) := by
        show _ = _
        simp [vals]
      have o4 := World.ownsRow.alloc o3 (.cells #[.int .i64 x, .int .i64 y, .int .i64 z] 23)
      have HO := hideV o4
      have hS3 := d3.1
      have BA := belowA V3 (.cells #[.int .i64 x, .int .i64 y, .int .i64 z] 23)
      have hB4 := hB3.trans (BA.mono (Nat.le_of_lt hS3))
      have d4 := d3.below BA
      have hl4 := hl3.low (BA.mono (Nat.le_of_lt hS3))
      have hh4 : Hs ≤ (V3.alloc (.cells #[.int .i64 x, .int .i64 y, .int .i64 z] 23)).heap.size := Nat.le_trans hh3 BA.size
      have HE := hideV (And.intro hB4 (And.intro d4 (And.intro hl4 hh4)))
      clear hB4 d4 hl4 hh4 o4 o3 o2 hl2 hB2 hh2 hq d2 K3 hb hx hxl hl3 hB3 hh3 BA hS3 d3
      have hkn : k + 1 ≤ 8 := by have := HN.out; omega
      go_wp2_with (at_builtin; go_loud (refine wpList_append_own _ rfl (.tmp 16) (.tmp 24) 26 rfl Hs 23 i0 (.agg #[.int .i64 0, .int .i64 0, .int .i64 0]) 3 24 Try.underlying26 HI.out HZ.out.1 HZ.out.2.1 HZ.out.2.2 rfl (by decide) _ _ _ rfl HO.out ⟨V3.heap.size, 0, none⟩ 1 1 [.int .i64 x, .int .i64 y, .int .i64 z] rfl rfl (World.news_of_block (World.alloc_heap_new _ _)) (by intro u hu; simp at hu; rcases hu with rfl | rfl | rfl <;> rfl) (by unfold maxLen; omega) (by omega) HE.out.2.2.2 ?_))
      intro v' w7 hown7 hgrow7 _
      obtain ⟨hB4, d4, hl4, hh4⟩ := HE.out
      have hlk : ∀ k', u6.ownBlock = some k' → Hs ≤ k' := fun k' hk' => (HO.out.lt k' hk').1
      have hS4 := d4.1
      have B7 : Below S w w7 := hB4.grown hgrow7 (by omega) (fun k' hk' => by have := hlk k' hk'; omega)
      have d7 := grown_var hgrow7 d4 (fun k' hk' => by have := hlk k' hk'; omega)
      have l7 := hl4.low ((Below.refl S _).grown hgrow7 (by omega) (fun k' hk' => by have := hlk k' hk'; omega))
      have h7 : Hid (Hs ≤ w7.heap.size) := Nat.le_trans hh4 hgrow7.size
      have HO7 : Hid (w7.ownsRow Hs 23 3 v' (k + 1) (vals (xs ++ [x, y, z]))) := hideV (by rw [← hvals.out]; exact hown7)
      clear hown7 hgrow7 hlk hB4 d4 hl4 hh4 HE HO hvals hS4
      go_wp2_with fail
      go_roundw
      case rel => exact ⟨k + 1, a3, xs ++ [x, y, z], by omega, by simp, HO7, hx3, hxl3, d7, B7, l7, h7⟩
      case measure => simp [intOf]; omega
    · obtain rfl : k = n := by omega
      obtain ⟨g, c, rfl, hg, hv, hgc⟩ := own_varC ho.out HN.out.1
      have HX := hideV (And.intro hx.out (And.intro hxl.out (And.intro hv (And.intro hg (And.intro hgc hB)))))
      clear hv hg hgc hx hxl ho d0 hl hh
      go_wp2_with fail
      go_ret
      obtain ⟨x1, x2, x3, x4, x6, x5⟩ := HX.out
      exact ⟨g, c, xs, rfl, x2, x1, x3, by rw [HS.out]; omega, x6, by rw [HS.out]; exact x5⟩
end Go.Proofs.Ytblnpelbklfloaa
