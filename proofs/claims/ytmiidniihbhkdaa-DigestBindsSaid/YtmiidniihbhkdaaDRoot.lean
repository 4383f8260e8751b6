/- Root. -/
import Derived.Test.YtmiidniihbhkdaaDLevels
namespace Go.Proofs.Ytmiidniihbhkdaa
open Go.RowKit Go.Shelf
attribute [local go_sem] Oper.semAt_some

/-- the root of a list's tree -/
def rootOf (S : Nat → ByteArray) (n : Nat) : List UInt8 := dig (climbP (lowP S n) (lg n) 0)

theorem levels_any (a : Option Addr) (L cap : Nat) (w : World) :
    Calls Try.prog 35 #[.slice a L cap] w fun e w' => e = .returned (.func (.func 42) #[] #[.pointer (some ⟨w.heap.size, 0, none⟩)]) ∧ w.alloc (.cells #[.slice a L cap] 29) = w' := by
  go_enter Try.func35, Try.ntmps35
  go_wp2
  go_ret
  exact ⟨rfl, rfl⟩

theorem keeps_set8 (W : World) (b o : Nat) (l : List UInt8) : KeepsOthers W (set8 W b o l) :=
  (((((((KeepsOthers.setCell W _ _).trans (KeepsOthers.setCell _ _ _)).trans (KeepsOthers.setCell _ _ _)).trans (KeepsOthers.setCell _ _ _)).trans (KeepsOthers.setCell _ _ _)).trans (KeepsOthers.setCell _ _ _)).trans (KeepsOthers.setCell _ _ _)).trans (KeepsOthers.setCell _ _ _)
theorem size_set8 (W : World) (b o : Nat) (l : List UInt8) : (set8 W b o l).heap.size = W.heap.size := by
  unfold set8
  simp only [World.size_setCell]

/-- what holds between the rounds -/
structure RootInv (w W0 : World) (a : Option Addr) (n c : Nat) (S : Nat → ByteArray) (k : Nat) (W : World) : Prop where
  box : ∃ v : Nat → Value, Box8 W w.heap.size v ∧ (∀ k', k = k' + 1 → ∀ j, j < 8 → v j = .int .u8 (db (climbP (lowP S n) k' 0) j : Int))
  arg : W.cell? ⟨w.heap.size + 1, 0, none⟩ = some (.slice a n c)
  below : Below w.heap.size w W
  size : W0.heap.size ≤ W.heap.size

set_option maxRecDepth 100000 in
set_option maxHeartbeats 2000000 in
theorem root_any (a : Option Addr) (n c : Nat) (hn : n ≤ 1099511627776) (S : Nat → ByteArray) (hs : ∀ j, j < n → (S j).size ≤ 9223372036854775807) (w : World) (hS : Strs w a n S) :
    Calls Try.prog 21 #[.slice a n c] w fun e w' => e = .returned (str (rootOf S n)) ∧ Below w.heap.size w w' := by
  refine calls_marks Try.func21 rfl ?_
  simp only [Try.ntmps21, List.size_toArray, List.length_cons, List.length_nil, Nat.reduceAdd, Nat.reduceSub, Array.replicate_succ, Array.replicate_zero, List.push_toArray, List.append_toArray, List.nil_append, List.cons_append]
  go_wp2_with (go_at_call 35; refine (levels_any _ _ _ _).mono ?_; rintro e w' ⟨rfl, rfl⟩)
  obtain ⟨W0, hW0⟩ : ∃ W0, (w.alloc (.cells #[.int .u8 0, .int .u8 0, .int .u8 0, .int .u8 0, .int .u8 0, .int .u8 0, .int .u8 0, .int .u8 0] 43)).alloc (.cells #[.slice a n c] 29) = W0 := ⟨_, rfl⟩
  have b0 : Box8 W0 w.heap.size (fun j => #[Value.int .u8 0, .int .u8 0, .int .u8 0, .int .u8 0, .int .u8 0, .int .u8 0, .int .u8 0, .int .u8 0].getD j undef) := by
    rw [← hW0]
    have h1 := Box8.new w (.int .u8 0) (.int .u8 0) (.int .u8 0) (.int .u8 0) (.int .u8 0) (.int .u8 0) (.int .u8 0) (.int .u8 0) 43
    exact h1.below ((Below.refl _ _).alloc (Nat.le_refl _) _) h1.lt
  have c1 : W0.cell? ⟨w.heap.size + 1, 0, none⟩ = some (.slice a n c) := by rw [← hW0]; simp [go_sem]
  have hsz : W0.heap.size = w.heap.size + 2 := by rw [← hW0]; simp
  have hB0 : Below w.heap.size w W0 := by rw [← hW0]; exact ((Below.refl _ w).alloc (Nat.le_refl _) _).alloc (by simp) _
  rw [hW0]
  clear hW0
  have HS := hide hs
  have HZ := hide hsz
  clear hs
  refine wpIn_wide.1 (wp_levels 11 (by decide) (w.heap.size + 1) w.heap.size a n c hn S HS.out rfl rfl (by omega) (RootInv w W0 a n c S) ?hI ?hIB ?hbox ⟨⟨_, b0, fun k' e => absurd e (by omega)⟩, c1, hB0, Nat.le_refl _⟩
    (fun b m => { tmps := #[.slice a n c, undef, .string ⟨#[]⟩, .pointer (some ⟨w.heap.size, 0, none⟩), .slice (some ⟨b, 0, none⟩) m m, .slice a n c, .func (.func 42) #[] #[.pointer (some ⟨w.heap.size + 1, 0, none⟩)], .slice (some ⟨b, 0, none⟩) m m, undef, undef, undef, undef, undef], defers := [] }) ?assign ?body ?done)
  case hI =>
    refine ownFrom_of (fun _ _ h => h.size) ?_
    rintro s W W' ⟨⟨v, h1, h2⟩, h3, h4, h5⟩ hc
    exact ⟨⟨v, ⟨fun j hj => hc.cell _ _ (h1.cell j hj), fun j hj => (hc.frozen _ _ (h1.cell j hj)).trans (h1.free j hj)⟩, h2⟩, hc.cell _ _ h3, h4.trans (hc.below.mono (by omega)), Nat.le_trans h5 hc.below.size⟩
  case hIB =>
    rintro k W W' ⟨⟨v, h1, h2⟩, h3, h4, h5⟩ hle hb
    exact ⟨⟨v, h1.below hb h1.lt, h2⟩, (hb.cell (p := ⟨w.heap.size + 1, 0, none⟩) (by show w.heap.size + 1 < W.heap.size; omega)).trans h3, h4.trans (hb.mono (by omega)), Nat.le_trans h5 hb.size⟩
  case hbox => exact fun W h => ⟨h.arg, hS.below h.below (Nat.le_refl _)⟩
  case assign =>
    intro l b m W K hK
    gi_wp2
    exact hK
  case body =>
    rintro l k b m W hk hrb hm1 hm2 ⟨⟨v, h1, h2⟩, h3, h4, h5⟩ hL
    have hd := hL 0 (by omega)
    rw [Nat.zero_mul] at hd
    obtain ⟨P, hP⟩ : ∃ P, climbP (lowP S n) k = P := ⟨_, rfl⟩
    rw [hP] at hL hd
    have HP := hide hP
    have H2 := hide h2
    clear hP h2
    have d0 : W.cell? ⟨b, 0, none⟩ = some (.int .u8 (db (P 0) 0 : Int)) := by have := hd 0 (by decide); rwa [Nat.zero_add] at this
    have d1 : W.cell? ⟨b, 1, none⟩ = some (.int .u8 (db (P 0) 1 : Int)) := by have := hd 1 (by decide); rwa [Nat.zero_add] at this
    have d2 : W.cell? ⟨b, 2, none⟩ = some (.int .u8 (db (P 0) 2 : Int)) := by have := hd 2 (by decide); rwa [Nat.zero_add] at this
    have d3 : W.cell? ⟨b, 3, none⟩ = some (.int .u8 (db (P 0) 3 : Int)) := by have := hd 3 (by decide); rwa [Nat.zero_add] at this
    have d4 : W.cell? ⟨b, 4, none⟩ = some (.int .u8 (db (P 0) 4 : Int)) := by have := hd 4 (by decide); rwa [Nat.zero_add] at this
    have d5 : W.cell? ⟨b, 5, none⟩ = some (.int .u8 (db (P 0) 5 : Int)) := by have := hd 5 (by decide); rwa [Nat.zero_add] at this
    have d6 : W.cell? ⟨b, 6, none⟩ = some (.int .u8 (db (P 0) 6 : Int)) := by have := hd 6 (by decide); rwa [Nat.zero_add] at this
    have d7 : W.cell? ⟨b, 7, none⟩ = some (.int .u8 (db (P 0) 7 : Int)) := by have := hd 7 (by decide); rwa [Nat.zero_add] at this
    have q0 := h1.cell 0 (by decide)
    have z0 := h1.free 0 (by decide)
    have q1 := h1.cell 1 (by decide)
    have z1 := h1.free 1 (by decide)
    have q2 := h1.cell 2 (by decide)
    have z2 := h1.free 2 (by decide)
    have q3 := h1.cell 3 (by decide)
    have z3 := h1.free 3 (by decide)
    have q4 := h1.cell 4 (by decide)
    have z4 := h1.free 4 (by decide)
    have q5 := h1.cell 5 (by decide)
    have z5 := h1.free 5 (by decide)
    have q6 := h1.cell 6 (by decide)
    have z6 := h1.free 6 (by decide)
    have q7 := h1.cell 7 (by decide)
    have z7 := h1.free 7 (by decide)
    gi_wp2
    refine ⟨(keeps_set8 W w.heap.size 0 (P 0)).from _, ⟨⟨_, h1.set (P 0), fun k' e j hj => ?_⟩, ?_, set8_below (o := 0) _ h4 (Nat.le_refl _), ?_⟩, fun c o v' hc hv => ?_⟩
    · obtain rfl : k = k' := by omega
      rw [HP.out]
    · exact (set8_block W w.heap.size 0 _ _ _ (by omega)).trans h3
    · exact Nat.le_trans h5 (Nat.le_of_eq (size_set8 W w.heap.size 0 _).symm)
    · exact (set8_block W w.heap.size 0 _ _ _ (by omega)).trans hv
  case done =>
    rintro D W hD ⟨⟨v, h1, h2⟩, h3, h4, h5⟩ hK
    obtain ⟨P, hP⟩ : ∃ P, climbP (lowP S n) (lg n) = P := ⟨_, rfl⟩
    have h2' := h2 (lg n) rfl
    rw [hP] at h2'
    have HR : Hid (rootOf S n = dig (P 0)) := by unfold rootOf; rw [hP]; rfl
    have q0 : W.cell? ⟨w.heap.size, 0, none⟩ = some (.int .u8 (db (P 0) 0 : Int)) := by rw [h1.cell 0 (by decide), h2' 0 (by decide)]
    have q1 : W.cell? ⟨w.heap.size, 1, none⟩ = some (.int .u8 (db (P 0) 1 : Int)) := by rw [h1.cell 1 (by decide), h2' 1 (by decide)]
    have q2 : W.cell? ⟨w.heap.size, 2, none⟩ = some (.int .u8 (db (P 0) 2 : Int)) := by rw [h1.cell 2 (by decide), h2' 2 (by decide)]
    have q3 : W.cell? ⟨w.heap.size, 3, none⟩ = some (.int .u8 (db (P 0) 3 : Int)) := by rw [h1.cell 3 (by decide), h2' 3 (by decide)]
    have q4 : W.cell? ⟨w.heap.size, 4, none⟩ = some (.int .u8 (db (P 0) 4 : Int)) := by rw [h1.cell 4 (by decide), h2' 4 (by decide)]
    have q5 : W.cell? ⟨w.heap.size, 5, none⟩ = some (.int .u8 (db (P 0) 5 : Int)) := by rw [h1.cell 5 (by decide), h2' 5 (by decide)]
    have q6 : W.cell? ⟨w.heap.size, 6, none⟩ = some (.int .u8 (db (P 0) 6 : Int)) := by rw [h1.cell 6 (by decide), h2' 6 (by decide)]
    have q7 : W.cell? ⟨w.heap.size, 7, none⟩ = some (.int .u8 (db (P 0) 7 : Int)) := by rw [h1.cell 7 (by decide), h2' 7 (by decide)]
    clear h2 h2' hP
    have hK2 := hide hK
    go_wp2_with (go_at_call 31; refine (text_any (P 0) _).mono ?_; rintro e w' ⟨rfl, rfl⟩)
    have hK3 : (W.alloc (cellsD (P 0))).heap[D]? = some (.deferred (some [])) := (Below.heap_alloc _ _ _ ((Array.getElem?_eq_some_iff.1 hK).1)).trans hK
    have hc := calm_put (B := w.heap.size) (.deferred none) (by omega) hK3 rfl
    refine leavesM_one hK3 ⟨str (dig (P 0)), by simp [results, Try.results21, go_sem], by rw [HR.out], ?_⟩
    exact (h4.alloc (by have := h4.size; omega) _).trans hc.below
end Go.Proofs.Ytmiidniihbhkdaa
