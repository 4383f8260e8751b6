/- plane's functions on vectors, and the reference's: no loop. -/
import Derived.WalkKit
import Derived.IntWalk
import Derived.BigQuiet
import Derived.Outline
import Derived.Test.YtblnpelbklfloaaRows
namespace Go.Proofs.Ytblnpelbklfloaa
open Go.RowKit

/-- a vector, a plane -/
def V (x y z : Int) : Value := .agg #[.int .i64 x, .int .i64 y, .int .i64 z]
def Pl (x y z b : Int) : Value := .agg #[.int .i64 x, .int .i64 y, .int .i64 z, .int .i64 b]
/-- the absolute value as it wraps around -/
def absW (n : Int) : Int := if n < 0 then wrap64 (-n) else n
/-- the inner product, the cross product's components, as they wrap around -/
def dt (a b c x y z : Int) : Int := wrap64 (wrap64 (wrap64 (a * x) + wrap64 (b * y)) + wrap64 (c * z))
def crx (_ b c _ y z : Int) : Int := wrap64 (wrap64 (b * z) - wrap64 (c * y))
def cry (a _ c x _ z : Int) : Int := wrap64 (wrap64 (c * x) - wrap64 (a * z))
def crz (a b _ x y _ : Int) : Int := wrap64 (wrap64 (a * y) - wrap64 (b * x))
/-- a call that hands v back and changes nothing that lay before -/
def Gives (w : World) (v : Value) (e : Ending) (w' : World) : Prop := e = .returned v ∧ Below w.heap.size w w'

set_option maxRecDepth 100000 in
set_option maxHeartbeats 1000000 in
theorem vec_l (x y z : Int) (w : World) : Calls Try.prog 12 #[.int .i64 x, .int .i64 y, .int .i64 z] w (Gives w (V x y z)) := by
  go_enter Try.func12, Try.ntmps12
  go_wp2
  exact bodyPost_ret (v := .agg #[.int .i64 x, .int .i64 y, .int .i64 z]) (by simp [results, Try.results12, go_sem]) rfl ⟨rfl, by repeat (first | exact Below.refl _ _ | refine Below.alloc ?_ (by simp; try omega) _ | refine Below.setCell ?_ (by simp; try omega) _)⟩

set_option maxRecDepth 100000 in
set_option maxHeartbeats 1000000 in
theorem add_p (a b c x y z : Int) (w : World) : Calls Try.prog 15 #[V a b c, V x y z] w (Gives w (V (wrap64 (a + x)) (wrap64 (b + y)) (wrap64 (c + z)))) := by
  unfold V
  go_enter Try.func15, Try.ntmps15
  go_wp2
  exact bodyPost_ret (v := .agg #[.int .i64 (wrap64 (a + x)), .int .i64 (wrap64 (b + y)), .int .i64 (wrap64 (c + z))]) (by simp [results, Try.results15, go_sem]) rfl ⟨rfl, by repeat (first | exact Below.refl _ _ | refine Below.alloc ?_ (by simp; try omega) _ | refine Below.setCell ?_ (by simp; try omega) _)⟩

set_option maxRecDepth 100000 in
set_option maxHeartbeats 1000000 in
theorem sub_p (a b c x y z : Int) (w : World) : Calls Try.prog 17 #[V a b c, V x y z] w (Gives w (V (wrap64 (a - x)) (wrap64 (b - y)) (wrap64 (c - z)))) := by
  unfold V
  go_enter Try.func17, Try.ntmps17
  go_wp2
  exact bodyPost_ret (v := .agg #[.int .i64 (wrap64 (a - x)), .int .i64 (wrap64 (b - y)), .int .i64 (wrap64 (c - z))]) (by simp [results, Try.results17, go_sem]) rfl ⟨rfl, by repeat (first | exact Below.refl _ _ | refine Below.alloc ?_ (by simp; try omega) _ | refine Below.setCell ?_ (by simp; try omega) _)⟩

set_option maxRecDepth 100000 in
set_option maxHeartbeats 1000000 in
theorem cross_p (a b c x y z : Int) (w : World) : Calls Try.prog 21 #[V a b c, V x y z] w (Gives w (V (crx a b c x y z) (cry a b c x y z) (crz a b c x y z))) := by
  unfold V
  go_enter Try.func21, Try.ntmps21
  go_wp2
  exact bodyPost_ret (v := .agg #[.int .i64 (wrap64 (wrap64 (b * z) - wrap64 (c * y))), .int .i64 (wrap64 (wrap64 (c * x) - wrap64 (a * z))), .int .i64 (wrap64 (wrap64 (a * y) - wrap64 (b * x)))]) (by simp [results, Try.results21, go_sem]) rfl ⟨rfl, by repeat (first | exact Below.refl _ _ | refine Below.alloc ?_ (by simp; try omega) _ | refine Below.setCell ?_ (by simp; try omega) _)⟩

set_option maxRecDepth 100000 in
set_option maxHeartbeats 1000000 in
theorem dot_p (a b c x y z : Int) (w : World) : Calls Try.prog 19 #[V a b c, V x y z] w (Gives w (.int .i64 (dt a b c x y z))) := by
  unfold V
  go_enter Try.func19, Try.ntmps19
  go_wp2
  go_ret
  exact ⟨rfl, by repeat (first | exact Below.refl _ _ | refine Below.alloc ?_ (by simp; try omega) _ | refine Below.setCell ?_ (by simp; try omega) _)⟩

set_option maxRecDepth 100000 in
set_option maxHeartbeats 1000000 in
theorem abs_p (n : Int) (w : World) : Calls Try.prog 47 #[.int .i64 n] w fun e w' => e = .returned (.int .i64 (absW n)) ∧ w' = w := by
  go_enter Try.func47, Try.ntmps47
  unfold absW
  by_cases h : n < 0
  · go_wp2
    go_ret
    exact ⟨rfl, rfl⟩
  · go_wp2
    go_ret
    exact ⟨rfl, rfl⟩

set_option maxRecDepth 100000 in
set_option maxHeartbeats 1000000 in
theorem add_r (a b c x y z : Int) (w : World) : Calls Try.prog 16 #[V a b c, V x y z] w (Gives w (V (wrap64 (a + x)) (wrap64 (b + y)) (wrap64 (c + z)))) := by
  unfold V
  go_enter Try.func16, Try.ntmps16
  go_wp2
  exact bodyPost_ret (v := .agg #[.int .i64 (wrap64 (a + x)), .int .i64 (wrap64 (b + y)), .int .i64 (wrap64 (c + z))]) (by simp [results, Try.results16, go_sem]) rfl ⟨rfl, by repeat (first | exact Below.refl _ _ | refine Below.alloc ?_ (by simp; try omega) _ | refine Below.setCell ?_ (by simp; try omega) _)⟩

set_option maxRecDepth 100000 in
set_option maxHeartbeats 1000000 in
theorem sub_r (a b c x y z : Int) (w : World) : Calls Try.prog 18 #[V a b c, V x y z] w (Gives w (V (wrap64 (a - x)) (wrap64 (b - y)) (wrap64 (c - z)))) := by
  unfold V
  go_enter Try.func18, Try.ntmps18
  go_wp2
  exact bodyPost_ret (v := .agg #[.int .i64 (wrap64 (a - x)), .int .i64 (wrap64 (b - y)), .int .i64 (wrap64 (c - z))]) (by simp [results, Try.results18, go_sem]) rfl ⟨rfl, by repeat (first | exact Below.refl _ _ | refine Below.alloc ?_ (by simp; try omega) _ | refine Below.setCell ?_ (by simp; try omega) _)⟩

set_option maxRecDepth 100000 in
set_option maxHeartbeats 1000000 in
theorem cross_r (a b c x y z : Int) (w : World) : Calls Try.prog 22 #[V a b c, V x y z] w (Gives w (V (crx a b c x y z) (cry a b c x y z) (crz a b c x y z))) := by
  unfold V
  go_enter Try.func22, Try.ntmps22
  go_wp2
  exact bodyPost_ret (v := .agg #[.int .i64 (wrap64 (wrap64 (b * z) - wrap64 (c * y))), .int .i64 (wrap64 (wrap64 (c * x) - wrap64 (a * z))), .int .i64 (wrap64 (wrap64 (a * y) - wrap64 (b * x)))]) (by simp [results, Try.results22, go_sem]) rfl ⟨rfl, by repeat (first | exact Below.refl _ _ | refine Below.alloc ?_ (by simp; try omega) _ | refine Below.setCell ?_ (by simp; try omega) _)⟩

set_option maxRecDepth 100000 in
set_option maxHeartbeats 1000000 in
theorem dot_r (a b c x y z : Int) (w : World) : Calls Try.prog 20 #[V a b c, V x y z] w (Gives w (.int .i64 (dt a b c x y z))) := by
  unfold V
  go_enter Try.func20, Try.ntmps20
  go_wp2
  go_ret
  exact ⟨rfl, by repeat (first | exact Below.refl _ _ | refine Below.alloc ?_ (by simp; try omega) _ | refine Below.setCell ?_ (by simp; try omega) _)⟩

set_option maxRecDepth 100000 in
set_option maxHeartbeats 1000000 in
theorem abs_r (n : Int) (w : World) : Calls Try.prog 48 #[.int .i64 n] w fun e w' => e = .returned (.int .i64 (absW n)) ∧ w' = w := by
  go_enter Try.func48, Try.ntmps48
  unfold absW
  by_cases h : n < 0
  · go_wp2
    go_ret
    exact ⟨rfl, rfl⟩
  · go_wp2
    go_ret
    exact ⟨rfl, rfl⟩

set_option maxRecDepth 100000 in
set_option maxHeartbeats 1000000 in
theorem components_r (x y z : Int) (w : World) : Calls Try.prog 46 #[V x y z] w (Gives w (V x y z)) := by
  unfold V
  go_enter Try.func46, Try.ntmps46
  go_wp2
  exact bodyPost_ret (v := .agg #[.int .i64 x, .int .i64 y, .int .i64 z]) (by simp [results, Try.results46, go_sem]) rfl ⟨rfl, by repeat (first | exact Below.refl _ _ | refine Below.alloc ?_ (by simp; try omega) _ | refine Below.setCell ?_ (by simp; try omega) _)⟩

set_option maxRecDepth 100000 in
set_option maxHeartbeats 1000000 in
theorem side_l (n : Int) (w : World) : Calls Try.prog 42 #[.int .i64 n] w fun e w' => e = .returned (.int .i64 (if n < 0 then -1 else 1)) ∧ w' = w := by
  go_enter Try.func42, Try.ntmps42
  by_cases h : n < 0
  · go_wp2
    go_ret
    exact ⟨rfl, rfl⟩
  · go_wp2
    go_ret
    exact ⟨rfl, rfl⟩
end Go.Proofs.Ytblnpelbklfloaa
