/- Cells that are moved. -/
import Derived.Test.YtjeenfnfkndgaaaZZ
import Derived.Test.YtjeenfnfkndgaaaSB
import Derived.Test.YtjeenfnfkndgaaaRows
namespace Go.Proofs.Ytjeenfnfkndgaaa
open Go Go.Sz Go.RowKit

/-- for v := 0; v < bound; v++ (bound: what stays the same) -/
theorem len_loop {T : Tab} {B : BT} {η : Env} {d n : Nat} {s : Sub} {t e : Tree} {v : Nat} {bnd : X} (N : Nat) (J : Nat → Env → Prop) (hi : (η.sub T s).d v = .i 0) (h0 : J 0 (η.sub T s))
    (hb : ∀ η' : Env, Agree n η η' → (bnd.d T η').int = (N : Int))
    (hround : ∀ (k : Nat) (η' : Env), k < N → Agree n η η' → η'.d v = .i (k : Int) → J k η' → t.sat T LF (upd B d fun η'' s' => (η''.sub T s').d v = .i ((k + 1 : Nat) : Int) ∧ J (k + 1) (η''.sub T s')) η')
    (hexit : ∀ (η' : Env) (b : Env → Sub → Prop), Agree n η η' → η'.d v = .i (N : Int) → J N η' → e.sat T LF (upd B d b) η') :
    (Tree.loop d n s (.br (.o2 .lt (.var v) bnd) t e)).sat T LF B η := by
  refine ⟨fun η' => ∃ k : Nat, k ≤ N ∧ η'.d v = .i (k : Int) ∧ J k η', fun η' => N - (η'.d v).int.toNat, ⟨0, Nat.zero_le _, hi, h0⟩, fun η' ha ⟨k, hk, hv, hj⟩ => ⟨fun hc => ?_, fun hc => ?_⟩⟩
  · have hc : (η'.d v).int < (bnd.d T η').int := of_decide_eq_true (p := (η'.d v).int < (bnd.d T η').int) hc
    rw [hv, hb η' ha] at hc
    have hc : (k : Int) < (N : Int) := hc
    refine sat_B (fun j η'' s' h => ?_) (hround k η' (by omega) ha hv hj)
    unfold upd at h ⊢
    split
    · rename_i hjd
      rw [if_pos hjd] at h
      obtain ⟨h1, h2⟩ := h
      refine ⟨⟨k + 1, by omega, h1, h2⟩, ?_⟩
      simp only
      rw [h1, hv]
      show N - ((k + 1 : Nat) : Int).toNat < N - (k : Int).toNat
      omega
    · rename_i hjd; rw [if_neg hjd] at h; exact h
  · have hc : ¬ (η'.d v).int < (bnd.d T η').int := of_decide_eq_false (p := (η'.d v).int < (bnd.d T η').int) hc
    rw [hv, hb η' ha] at hc
    have hc : ¬ (k : Int) < (N : Int) := hc
    have : k = N := by omega
    subst this
    exact hexit η' _ ha hv hj
/-- lists that are mapped, as long as all goes well -/
def okL (ok : D → Bool) : D → Bool
  | .cons p t => ok p && okL ok t
  | _ => true
def mapL (f : D → D) : D → D
  | .cons p t => .cons (f p) (mapL f t)
  | _ => .nil
theorem okL_get {ok : D → Bool} : ∀ {l : D} {k : Nat}, k < l.len → ok (l.get k) = false → okL ok l = false
  | .cons p t, 0, _, h => by show (ok p && okL ok t) = false; rw [show ok p = false from h]; rfl
  | .cons p t, k + 1, hk, h => by
    show (ok p && okL ok t) = false
    rw [okL_get (l := t) (k := k) (by simpa [D.len] using hk) h, Bool.and_false]
  | .nil, _, h, _ | .i _, _, h, _ | .b _, _, h, _ => by simp [D.len] at h
theorem okL_succ {ok : D → Bool} : ∀ {l : D} {k : Nat}, k < l.len → okL ok (l.take (k + 1)) = (okL ok (l.take k) && ok (l.get k))
  | .cons p t, 0, _ => by show (ok p && okL ok (t.take 0)) = (true && ok p); cases t <;> simp [D.take, okL]
  | .cons p t, k + 1, hk => by
    show (ok p && okL ok (t.take (k + 1))) = ((ok p && okL ok (t.take k)) && ok (t.get k))
    rw [okL_succ (l := t) (k := k) (by simpa [D.len] using hk), Bool.and_assoc]
  | .nil, _, h | .i _, _, h | .b _, _, h => by simp [D.len] at h
theorem mapL_succ {f : D → D} : ∀ {l : D} {k : Nat}, k < l.len → mapL f (l.take (k + 1)) = (mapL f (l.take k)).app (.cons (f (l.get k)) .nil)
  | .cons p t, 0, _ => by show D.cons (f p) (mapL f (t.take 0)) = _; cases t <;> rfl
  | .cons p t, k + 1, hk => by
    show D.cons (f p) (mapL f (t.take (k + 1))) = _
    rw [mapL_succ (l := t) (k := k) (by simpa [D.len] using hk)]; rfl
  | .nil, _, h | .i _, _, h | .b _, _, h => by simp [D.len] at h
theorem okL_take {ok : D → Bool} : ∀ l : D, okL ok (l.take l.len) = okL ok l
  | .cons p t => by show (ok p && okL ok (t.take t.len)) = _; rw [okL_take t]; rfl
  | .nil | .i _ | .b _ => rfl
theorem mapL_take {f : D → D} : ∀ l : D, mapL f (l.take l.len) = mapL f l
  | .cons p t => by show D.cons (f p) (mapL f (t.take t.len)) = _; rw [mapL_take t]; rfl
  | .nil | .i _ | .b _ => rfl
theorem mapL_len {f : D → D} : ∀ (l : D) (k : Nat), (mapL f (l.take k)).len ≤ k
  | .cons p t, 0 => Nat.le_refl _
  | .cons p t, k + 1 => by have := mapL_len (f := f) t k; show (mapL f (t.take k)).len + 1 ≤ k + 1; omega
  | .nil, k | .i _, k | .b _, k => by cases k <;> exact Nat.zero_le _
theorem mapL_zero {f : D → D} (l : D) : D.nil = mapL f (l.take 0) := by cases l <;> rfl
theorem okL_zero {ok : D → Bool} (l : D) : okL ok (l.take 0) = true := by cases l <;> rfl
noncomputable def P9 : D → D := fnOf F17 turn_Plane_w_x
noncomputable def P20 : D → D := fnOf F7 turn_valid_x
noncomputable def okC (f p : D) : Bool := ((P9 (f.app (D.seg 4 p 0))).get 4).bool
noncomputable def imC (f p : D) : D := D.seg 4 (P9 (f.app (D.seg 4 p 0))) 0
noncomputable def cellD : D → D := fun d => if (((P20 (D.seg 13 d 0)).get 0).bool && okL (okC (D.seg 13 d 0)) (d.get 13)) = true then .cons (mapL (imC (D.seg 13 d 0)) (d.get 13)) (.cons (.b true) .nil) else .cons .nil (.cons (.b false) .nil)
noncomputable def F19 : Fs := (40, cellD) :: F18
noncomputable def turn_Cell_q0 : X := .fn 40 (.o2 .cons (.var 0) (.o2 .cons (.var 1) (.o2 .cons (.var 2) (.o2 .cons (.var 3) (.o2 .cons (.var 4) (.o2 .cons (.var 5) (.o2 .cons (.var 6) (.o2 .cons (.var 7) (.o2 .cons (.var 8) (.o2 .cons (.var 9) (.o2 .cons (.var 10) (.o2 .cons (.var 11) (.o2 .cons (.var 12) (.o2 .cons (.var 13) (.lit .nil)))))))))))))))
noncomputable def turn_Cell_k : Con := { f := 23, pat := [.v (.agg [.int .i64 (.var 0), .int .i64 (.var 1), .int .i64 (.var 2), .int .i64 (.var 3), .int .i64 (.var 4), .int .i64 (.var 5), .int .i64 (.var 6), .int .i64 (.var 7), .int .i64 (.var 8), .int .i64 (.var 9), .int .i64 (.var 10), .int .i64 (.var 11), .int .i64 (.var 12)]), .v (.one (.lst (.cons (.int .i64) (.cons (.int .i64) (.cons (.int .i64) (.cons (.int .i64) .nil)))) (.var 13)))], need := [.o2 .le (.o1 .len (.var 13)) (.lit (.i 2000000))], res := .tup [.one (.own 0), .one (.bool (.o2 .get turn_Cell_q0 (.lit (.i 1))))], nw := [.row 41 (.cons (.int .i64) (.cons (.int .i64) (.cons (.int .i64) (.cons (.int .i64) .nil)))) (.o2 .get turn_Cell_q0 (.lit (.i 0)))] }
noncomputable def turn_Cell_t0 : X := .fn 40 (.o2 .cons (.var 0) (.o2 .cons (.var 1) (.o2 .cons (.var 2) (.o2 .cons (.var 3) (.o2 .cons (.var 4) (.o2 .cons (.var 5) (.o2 .cons (.var 6) (.o2 .cons (.var 7) (.o2 .cons (.var 8) (.o2 .cons (.var 9) (.o2 .cons (.var 10) (.o2 .cons (.var 11) (.o2 .cons (.var 12) (.o2 .cons (.var 13) (.lit .nil)))))))))))))))
noncomputable def turn_Cell_t1 : X := .fn 9 (.o2 .cons (.var 0) (.o2 .cons (.var 1) (.o2 .cons (.var 2) (.o2 .cons (.var 3) (.o2 .cons (.var 4) (.o2 .cons (.var 5) (.o2 .cons (.var 6) (.o2 .cons (.var 7) (.o2 .cons (.var 8) (.o2 .cons (.var 9) (.o2 .cons (.var 10) (.o2 .cons (.var 11) (.o2 .cons (.var 12) (.o1 (.seg 4) (.o2 .get (.var 13) (.var 14))))))))))))))))
set_option maxRecDepth 100000 in
theorem turn_Cell_c {T : Tab} (hF : Fs.ok F19 T) : turn_Cell_k.Ok Try.prog T :=
  con_tree (K := [turn_valid_n_k, turn_Plane_w_n_k]) (nb := 14) (fuel := 110) (sym := [0]) (.br (.o1 .not (.o2 .get (.fn 20 (.o2 .cons (.var 0) (.o2 .cons (.var 1) (.o2 .cons (.var 2) (.o2 .cons (.var 3) (.o2 .cons (.var 4) (.o2 .cons (.var 5) (.o2 .cons (.var 6) (.o2 .cons (.var 7) (.o2 .cons (.var 8) (.o2 .cons (.var 9) (.o2 .cons (.var 10) (.o2 .cons (.var 11) (.o2 .cons (.var 12) (.lit .nil))))))))))))))) (.lit (.i 0)))) (.fin [(2, .lit .nil, .o2 .get turn_Cell_t0 (.lit (.i 0))), (1, .lit (.b false), .o2 .get turn_Cell_t0 (.lit (.i 1)))]) (.loop 0 14 { n := 14, x := [(0, .var 0), (1, .var 1), (2, .var 2), (3, .var 3), (4, .var 4), (5, .var 5), (6, .var 6), (7, .var 7), (8, .var 8), (9, .var 9), (10, .var 10), (11, .var 11), (12, .var 12), (13, .var 13), (0, .var 0), (1, .var 1), (2, .var 2), (3, .var 3), (4, .var 4), (5, .var 5), (6, .var 6), (7, .var 7), (8, .var 8), (9, .var 9), (10, .var 10), (11, .var 11), (12, .var 12), (13, .var 13), (14, .lit (.i 0)), (0, .var 0), (1, .var 1), (2, .var 2), (3, .var 3), (4, .var 4), (5, .var 5), (6, .var 6), (7, .var 7), (8, .var 8), (9, .var 9), (10, .var 10), (11, .var 11), (12, .var 12), (15, .lit .nil)], id := [(0, 0), (1, 1)] } (.br (.o2 .lt (.var 14) (.o1 .len (.var 13))) (.need [.o2 .le (.lit (.i 0)) (.var 14), .o2 .lt (.var 14) (.o1 .len (.var 13))] (.br (.o1 .not (.o2 .get turn_Cell_t1 (.lit (.i 4)))) (.fin [(2, .lit .nil, .o2 .get turn_Cell_t0 (.lit (.i 0))), (1, .lit (.b false), .o2 .get turn_Cell_t0 (.lit (.i 1)))]) (.need [.o2 .le (.o2 .pl (.o1 .len (.var 15)) (.lit (.i 1))) (.lit (.i 4398046511104))] (.back 0 { n := 14, x := [(0, .var 0), (1, .var 1), (2, .var 2), (3, .var 3), (4, .var 4), (5, .var 5), (6, .var 6), (7, .var 7), (8, .var 8), (9, .var 9), (10, .var 10), (11, .var 11), (12, .var 12), (13, .var 13), (0, .var 0), (1, .var 1), (2, .var 2), (3, .var 3), (4, .var 4), (5, .var 5), (6, .var 6), (7, .var 7), (8, .var 8), (9, .var 9), (10, .var 10), (11, .var 11), (12, .var 12), (13, .var 13), (14, .o2 (.add .i64) (.var 14) (.lit (.i 1))), (0, .var 0), (1, .var 1), (2, .var 2), (3, .var 3), (4, .var 4), (5, .var 5), (6, .var 6), (7, .var 7), (8, .var 8), (9, .var 9), (10, .var 10), (11, .var 11), (12, .var 12), (15, .o2 .app (.var 15) (.o2 .cons (.o2 .cons (.o2 .get turn_Cell_t1 (.lit (.i 0))) (.o2 .cons (.o2 .get turn_Cell_t1 (.lit (.i 1))) (.o2 .cons (.o2 .get turn_Cell_t1 (.lit (.i 2))) (.o2 .cons (.o2 .get turn_Cell_t1 (.lit (.i 3))) (.lit .nil))))) (.lit .nil)))], id := [(0, 0), (1, 5)] })))) (.fin [(2, .var 15, .o2 .get turn_Cell_t0 (.lit (.i 0))), (1, .lit (.b true), .o2 .get turn_Cell_t0 (.lit (.i 1)))])))) mixed_ hF (conCons (turn_valid_n_c hF.tail.tail.tail.tail.tail.tail.tail.tail.tail.tail.tail) (conCons (turn_Plane_w_n_c hF.tail) conNil)) (by kernel_rfl) (by kernel_rfl) fun η hneed => by
    have h40 : T 40 = cellD := hF.top
    have h9 : T 9 = P9 := hF.tail.top
    have h20 : T 20 = P20 := hF.tail.tail.tail.tail.tail.tail.tail.tail.tail.tail.tail.top
    have hl : ((η.d 13).len : Int) ≤ 2000000 := of_decide_eq_true (hneed _ (.head _))
    have c40 : T 40 (.cons (η.d 0) (.cons (η.d 1) (.cons (η.d 2) (.cons (η.d 3) (.cons (η.d 4) (.cons (η.d 5) (.cons (η.d 6) (.cons (η.d 7) (.cons (η.d 8) (.cons (η.d 9) (.cons (η.d 10) (.cons (η.d 11) (.cons (η.d 12) (.cons (η.d 13) .nil)))))))))))))) = if (((P20 (.cons (η.d 0) (.cons (η.d 1) (.cons (η.d 2) (.cons (η.d 3) (.cons (η.d 4) (.cons (η.d 5) (.cons (η.d 6) (.cons (η.d 7) (.cons (η.d 8) (.cons (η.d 9) (.cons (η.d 10) (.cons (η.d 11) (.cons (η.d 12) .nil)))))))))))))).get 0).bool && okL (okC (.cons (η.d 0) (.cons (η.d 1) (.cons (η.d 2) (.cons (η.d 3) (.cons (η.d 4) (.cons (η.d 5) (.cons (η.d 6) (.cons (η.d 7) (.cons (η.d 8) (.cons (η.d 9) (.cons (η.d 10) (.cons (η.d 11) (.cons (η.d 12) .nil)))))))))))))) (η.d 13)) = true then .cons (mapL (imC (.cons (η.d 0) (.cons (η.d 1) (.cons (η.d 2) (.cons (η.d 3) (.cons (η.d 4) (.cons (η.d 5) (.cons (η.d 6) (.cons (η.d 7) (.cons (η.d 8) (.cons (η.d 9) (.cons (η.d 10) (.cons (η.d 11) (.cons (η.d 12) .nil)))))))))))))) (η.d 13)) (.cons (.b true) .nil) else .cons .nil (.cons (.b false) .nil) := by rw [h40]; rfl
    refine ⟨fun c0 => ?_, fun c0 => ?_⟩
    · have c0 : (!((T 20 (.cons (η.d 0) (.cons (η.d 1) (.cons (η.d 2) (.cons (η.d 3) (.cons (η.d 4) (.cons (η.d 5) (.cons (η.d 6) (.cons (η.d 7) (.cons (η.d 8) (.cons (η.d 9) (.cons (η.d 10) (.cons (η.d 11) (.cons (η.d 12) .nil)))))))))))))).get 0).bool) = true := c0
      rw [h20, Bool.not_eq_true'] at c0
      intro p hp
      simp only [List.mem_cons, List.not_mem_nil, or_false] at hp
      rcases hp with rfl | rfl
      · show D.nil = (T 40 (.cons (η.d 0) (.cons (η.d 1) (.cons (η.d 2) (.cons (η.d 3) (.cons (η.d 4) (.cons (η.d 5) (.cons (η.d 6) (.cons (η.d 7) (.cons (η.d 8) (.cons (η.d 9) (.cons (η.d 10) (.cons (η.d 11) (.cons (η.d 12) (.cons (η.d 13) .nil))))))))))))))).get 0
        rw [c40, c0]; rfl
      · show false = ((T 40 (.cons (η.d 0) (.cons (η.d 1) (.cons (η.d 2) (.cons (η.d 3) (.cons (η.d 4) (.cons (η.d 5) (.cons (η.d 6) (.cons (η.d 7) (.cons (η.d 8) (.cons (η.d 9) (.cons (η.d 10) (.cons (η.d 11) (.cons (η.d 12) (.cons (η.d 13) .nil))))))))))))))).get 1).bool
        rw [c40, c0]; rfl
    · have c0 : (!((T 20 (.cons (η.d 0) (.cons (η.d 1) (.cons (η.d 2) (.cons (η.d 3) (.cons (η.d 4) (.cons (η.d 5) (.cons (η.d 6) (.cons (η.d 7) (.cons (η.d 8) (.cons (η.d 9) (.cons (η.d 10) (.cons (η.d 11) (.cons (η.d 12) .nil)))))))))))))).get 0).bool) = false := c0
      rw [h20, Bool.not_eq_false'] at c0
      rw [c0, Bool.true_and] at c40
      refine len_loop (η.d 13).len (fun k η' => η'.d 15 = mapL (imC (.cons (η.d 0) (.cons (η.d 1) (.cons (η.d 2) (.cons (η.d 3) (.cons (η.d 4) (.cons (η.d 5) (.cons (η.d 6) (.cons (η.d 7) (.cons (η.d 8) (.cons (η.d 9) (.cons (η.d 10) (.cons (η.d 11) (.cons (η.d 12) .nil)))))))))))))) ((η.d 13).take k) ∧ okL (okC (.cons (η.d 0) (.cons (η.d 1) (.cons (η.d 2) (.cons (η.d 3) (.cons (η.d 4) (.cons (η.d 5) (.cons (η.d 6) (.cons (η.d 7) (.cons (η.d 8) (.cons (η.d 9) (.cons (η.d 10) (.cons (η.d 11) (.cons (η.d 12) .nil)))))))))))))) ((η.d 13).take k) = true) rfl ⟨mapL_zero _, okL_zero _⟩ (fun η' ag => ?_) (fun k η' hk ag i0 j0 => ?_) (fun η' b ag i0 j0 => ?_)
      · show ((η'.d 13).len : Int) = _
        rw [ag.d 13 (by omega)]
      · have eA : T 40 (.cons (η'.d 0) (.cons (η'.d 1) (.cons (η'.d 2) (.cons (η'.d 3) (.cons (η'.d 4) (.cons (η'.d 5) (.cons (η'.d 6) (.cons (η'.d 7) (.cons (η'.d 8) (.cons (η'.d 9) (.cons (η'.d 10) (.cons (η'.d 11) (.cons (η'.d 12) (.cons (η'.d 13) .nil)))))))))))))) = T 40 (.cons (η.d 0) (.cons (η.d 1) (.cons (η.d 2) (.cons (η.d 3) (.cons (η.d 4) (.cons (η.d 5) (.cons (η.d 6) (.cons (η.d 7) (.cons (η.d 8) (.cons (η.d 9) (.cons (η.d 10) (.cons (η.d 11) (.cons (η.d 12) (.cons (η.d 13) .nil)))))))))))))) := by rw [ag.d 0 (by omega), ag.d 1 (by omega), ag.d 2 (by omega), ag.d 3 (by omega), ag.d 4 (by omega), ag.d 5 (by omega), ag.d 6 (by omega), ag.d 7 (by omega), ag.d 8 (by omega), ag.d 9 (by omega), ag.d 10 (by omega), ag.d 11 (by omega), ag.d 12 (by omega), ag.d 13 (by omega)]
        have e9 : T 9 (.cons (η'.d 0) (.cons (η'.d 1) (.cons (η'.d 2) (.cons (η'.d 3) (.cons (η'.d 4) (.cons (η'.d 5) (.cons (η'.d 6) (.cons (η'.d 7) (.cons (η'.d 8) (.cons (η'.d 9) (.cons (η'.d 10) (.cons (η'.d 11) (.cons (η'.d 12) (D.seg 4 ((η'.d 13).get (η'.d 14).int.toNat) 0)))))))))))))) = P9 (D.app (.cons (η.d 0) (.cons (η.d 1) (.cons (η.d 2) (.cons (η.d 3) (.cons (η.d 4) (.cons (η.d 5) (.cons (η.d 6) (.cons (η.d 7) (.cons (η.d 8) (.cons (η.d 9) (.cons (η.d 10) (.cons (η.d 11) (.cons (η.d 12) .nil))))))))))))) (D.seg 4 ((η.d 13).get k) 0)) := by rw [h9, ag.d 0 (by omega), ag.d 1 (by omega), ag.d 2 (by omega), ag.d 3 (by omega), ag.d 4 (by omega), ag.d 5 (by omega), ag.d 6 (by omega), ag.d 7 (by omega), ag.d 8 (by omega), ag.d 9 (by omega), ag.d 10 (by omega), ag.d 11 (by omega), ag.d 12 (by omega), ag.d 13 (by omega), i0]; rfl
        have a13 := ag.d 13 (by omega)
        refine ⟨fun x hx => ?_, fun c1 => ?_, fun c1 => ⟨need_le ?_, ?_⟩⟩
        · simp only [List.mem_cons, List.not_mem_nil, or_false] at hx
          rcases hx with rfl | rfl
          · exact decide_eq_true (show (0 : Int) ≤ (η'.d 14).int by rw [i0]; exact Int.natCast_nonneg k)
          · exact decide_eq_true (show (η'.d 14).int < ((η'.d 13).len : Int) by rw [i0, a13]; exact Int.ofNat_lt.2 hk)
        · have c1 : (!((T 9 (.cons (η'.d 0) (.cons (η'.d 1) (.cons (η'.d 2) (.cons (η'.d 3) (.cons (η'.d 4) (.cons (η'.d 5) (.cons (η'.d 6) (.cons (η'.d 7) (.cons (η'.d 8) (.cons (η'.d 9) (.cons (η'.d 10) (.cons (η'.d 11) (.cons (η'.d 12) (D.seg 4 ((η'.d 13).get (η'.d 14).int.toNat) 0))))))))))))))).get 4).bool) = true := c1
          rw [e9, Bool.not_eq_true'] at c1
          have hn := okL_get (ok := okC (.cons (η.d 0) (.cons (η.d 1) (.cons (η.d 2) (.cons (η.d 3) (.cons (η.d 4) (.cons (η.d 5) (.cons (η.d 6) (.cons (η.d 7) (.cons (η.d 8) (.cons (η.d 9) (.cons (η.d 10) (.cons (η.d 11) (.cons (η.d 12) .nil)))))))))))))) hk c1
          rw [hn] at c40
          intro p hp
          simp only [List.mem_cons, List.not_mem_nil, or_false] at hp
          rcases hp with rfl | rfl
          · show D.nil = (T 40 (.cons (η'.d 0) (.cons (η'.d 1) (.cons (η'.d 2) (.cons (η'.d 3) (.cons (η'.d 4) (.cons (η'.d 5) (.cons (η'.d 6) (.cons (η'.d 7) (.cons (η'.d 8) (.cons (η'.d 9) (.cons (η'.d 10) (.cons (η'.d 11) (.cons (η'.d 12) (.cons (η'.d 13) .nil))))))))))))))).get 0
            rw [eA, c40]; rfl
          · show false = ((T 40 (.cons (η'.d 0) (.cons (η'.d 1) (.cons (η'.d 2) (.cons (η'.d 3) (.cons (η'.d 4) (.cons (η'.d 5) (.cons (η'.d 6) (.cons (η'.d 7) (.cons (η'.d 8) (.cons (η'.d 9) (.cons (η'.d 10) (.cons (η'.d 11) (.cons (η'.d 12) (.cons (η'.d 13) .nil))))))))))))))).get 1).bool
            rw [eA, c40]; rfl
        · show ((η'.d 15).len : Int) + 1 ≤ 4398046511104
          rw [j0.1]
          have := mapL_len (f := imC (.cons (η.d 0) (.cons (η.d 1) (.cons (η.d 2) (.cons (η.d 3) (.cons (η.d 4) (.cons (η.d 5) (.cons (η.d 6) (.cons (η.d 7) (.cons (η.d 8) (.cons (η.d 9) (.cons (η.d 10) (.cons (η.d 11) (.cons (η.d 12) .nil)))))))))))))) (η.d 13) k
          omega
        · have c1 : (!((T 9 (.cons (η'.d 0) (.cons (η'.d 1) (.cons (η'.d 2) (.cons (η'.d 3) (.cons (η'.d 4) (.cons (η'.d 5) (.cons (η'.d 6) (.cons (η'.d 7) (.cons (η'.d 8) (.cons (η'.d 9) (.cons (η'.d 10) (.cons (η'.d 11) (.cons (η'.d 12) (D.seg 4 ((η'.d 13).get (η'.d 14).int.toNat) 0))))))))))))))).get 4).bool) = false := c1
          rw [e9, Bool.not_eq_false'] at c1
          refine ⟨?_, ?_, ?_⟩
          · show D.i (IntKind.i64.wrap ((η'.d 14).int + 1)) = _
            rw [i0]
            show D.i (IntKind.i64.wrap ((k : Int) + 1)) = _
            rw [w64 (by omega) (by omega)]; rfl
          · show (η'.d 15).app (.cons (D.seg 4 (T 9 (.cons (η'.d 0) (.cons (η'.d 1) (.cons (η'.d 2) (.cons (η'.d 3) (.cons (η'.d 4) (.cons (η'.d 5) (.cons (η'.d 6) (.cons (η'.d 7) (.cons (η'.d 8) (.cons (η'.d 9) (.cons (η'.d 10) (.cons (η'.d 11) (.cons (η'.d 12) (D.seg 4 ((η'.d 13).get (η'.d 14).int.toNat) 0))))))))))))))) 0) .nil) = _
            rw [e9, j0.1, mapL_succ hk]; rfl
          · rw [okL_succ hk, j0.2]
            exact c1
      · have eA : T 40 (.cons (η'.d 0) (.cons (η'.d 1) (.cons (η'.d 2) (.cons (η'.d 3) (.cons (η'.d 4) (.cons (η'.d 5) (.cons (η'.d 6) (.cons (η'.d 7) (.cons (η'.d 8) (.cons (η'.d 9) (.cons (η'.d 10) (.cons (η'.d 11) (.cons (η'.d 12) (.cons (η'.d 13) .nil)))))))))))))) = T 40 (.cons (η.d 0) (.cons (η.d 1) (.cons (η.d 2) (.cons (η.d 3) (.cons (η.d 4) (.cons (η.d 5) (.cons (η.d 6) (.cons (η.d 7) (.cons (η.d 8) (.cons (η.d 9) (.cons (η.d 10) (.cons (η.d 11) (.cons (η.d 12) (.cons (η.d 13) .nil)))))))))))))) := by rw [ag.d 0 (by omega), ag.d 1 (by omega), ag.d 2 (by omega), ag.d 3 (by omega), ag.d 4 (by omega), ag.d 5 (by omega), ag.d 6 (by omega), ag.d 7 (by omega), ag.d 8 (by omega), ag.d 9 (by omega), ag.d 10 (by omega), ag.d 11 (by omega), ag.d 12 (by omega), ag.d 13 (by omega)]
        have j1 := j0.1
        have j2 := j0.2
        rw [mapL_take] at j1
        rw [okL_take] at j2
        rw [j2] at c40
        intro p hp
        simp only [List.mem_cons, List.not_mem_nil, or_false] at hp
        rcases hp with rfl | rfl
        · show η'.d 15 = (T 40 (.cons (η'.d 0) (.cons (η'.d 1) (.cons (η'.d 2) (.cons (η'.d 3) (.cons (η'.d 4) (.cons (η'.d 5) (.cons (η'.d 6) (.cons (η'.d 7) (.cons (η'.d 8) (.cons (η'.d 9) (.cons (η'.d 10) (.cons (η'.d 11) (.cons (η'.d 12) (.cons (η'.d 13) .nil))))))))))))))).get 0
          rw [eA, c40, j1]; rfl
        · show true = ((T 40 (.cons (η'.d 0) (.cons (η'.d 1) (.cons (η'.d 2) (.cons (η'.d 3) (.cons (η'.d 4) (.cons (η'.d 5) (.cons (η'.d 6) (.cons (η'.d 7) (.cons (η'.d 8) (.cons (η'.d 9) (.cons (η'.d 10) (.cons (η'.d 11) (.cons (η'.d 12) (.cons (η'.d 13) .nil))))))))))))))).get 1).bool
          rw [eA, c40]; rfl
noncomputable def r11_Cell_q0 : X := .fn 40 (.o2 .cons (.var 0) (.o2 .cons (.var 1) (.o2 .cons (.var 2) (.o2 .cons (.var 3) (.o2 .cons (.var 4) (.o2 .cons (.var 5) (.o2 .cons (.var 6) (.o2 .cons (.var 7) (.o2 .cons (.var 8) (.o2 .cons (.var 9) (.o2 .cons (.var 10) (.o2 .cons (.var 11) (.o2 .cons (.var 12) (.o2 .cons (.var 13) (.lit .nil)))))))))))))))
noncomputable def r11_Cell_k : Con := { f := 24, pat := [.v (.agg [.int .i64 (.var 0), .int .i64 (.var 1), .int .i64 (.var 2), .int .i64 (.var 3), .int .i64 (.var 4), .int .i64 (.var 5), .int .i64 (.var 6), .int .i64 (.var 7), .int .i64 (.var 8), .int .i64 (.var 9), .int .i64 (.var 10), .int .i64 (.var 11), .int .i64 (.var 12)]), .v (.one (.lst (.cons (.int .i64) (.cons (.int .i64) (.cons (.int .i64) (.cons (.int .i64) .nil)))) (.var 13)))], need := [.o2 .le (.o1 .len (.var 13)) (.lit (.i 2000000))], res := .tup [.one (.own 0), .one (.bool (.o2 .get r11_Cell_q0 (.lit (.i 1))))], nw := [.row 41 (.cons (.int .i64) (.cons (.int .i64) (.cons (.int .i64) (.cons (.int .i64) .nil)))) (.o2 .get r11_Cell_q0 (.lit (.i 0)))] }
noncomputable def r11_Cell_t0 : X := .fn 40 (.o2 .cons (.var 0) (.o2 .cons (.var 1) (.o2 .cons (.var 2) (.o2 .cons (.var 3) (.o2 .cons (.var 4) (.o2 .cons (.var 5) (.o2 .cons (.var 6) (.o2 .cons (.var 7) (.o2 .cons (.var 8) (.o2 .cons (.var 9) (.o2 .cons (.var 10) (.o2 .cons (.var 11) (.o2 .cons (.var 12) (.o2 .cons (.var 13) (.lit .nil)))))))))))))))
noncomputable def r11_Cell_t1 : X := .fn 9 (.o2 .cons (.var 0) (.o2 .cons (.var 1) (.o2 .cons (.var 2) (.o2 .cons (.var 3) (.o2 .cons (.var 4) (.o2 .cons (.var 5) (.o2 .cons (.var 6) (.o2 .cons (.var 7) (.o2 .cons (.var 8) (.o2 .cons (.var 9) (.o2 .cons (.var 10) (.o2 .cons (.var 11) (.o2 .cons (.var 12) (.o1 (.seg 4) (.o2 .get (.var 13) (.var 14))))))))))))))))
set_option maxRecDepth 100000 in
theorem r11_Cell_c {T : Tab} (hF : Fs.ok F19 T) : r11_Cell_k.Ok Try.prog T :=
  con_tree (K := [r11_Right_s_k, r11_Plane_s_k]) (nb := 14) (fuel := 110) (sym := [0]) (.br (.o1 .not (.o2 .get (.fn 20 (.o2 .cons (.var 0) (.o2 .cons (.var 1) (.o2 .cons (.var 2) (.o2 .cons (.var 3) (.o2 .cons (.var 4) (.o2 .cons (.var 5) (.o2 .cons (.var 6) (.o2 .cons (.var 7) (.o2 .cons (.var 8) (.o2 .cons (.var 9) (.o2 .cons (.var 10) (.o2 .cons (.var 11) (.o2 .cons (.var 12) (.lit .nil))))))))))))))) (.lit (.i 0)))) (.fin [(2, .lit .nil, .o2 .get r11_Cell_t0 (.lit (.i 0))), (1, .lit (.b false), .o2 .get r11_Cell_t0 (.lit (.i 1)))]) (.loop 0 14 { n := 14, x := [(0, .var 0), (1, .var 1), (2, .var 2), (3, .var 3), (4, .var 4), (5, .var 5), (6, .var 6), (7, .var 7), (8, .var 8), (9, .var 9), (10, .var 10), (11, .var 11), (12, .var 12), (13, .var 13), (14, .lit (.i 0)), (0, .var 0), (1, .var 1), (2, .var 2), (3, .var 3), (4, .var 4), (5, .var 5), (6, .var 6), (7, .var 7), (8, .var 8), (9, .var 9), (10, .var 10), (11, .var 11), (12, .var 12), (0, .var 0), (1, .var 1), (2, .var 2), (3, .var 3), (4, .var 4), (5, .var 5), (6, .var 6), (7, .var 7), (8, .var 8), (9, .var 9), (10, .var 10), (11, .var 11), (12, .var 12), (15, .lit .nil)], id := [(0, 0), (1, 1)] } (.br (.o2 .lt (.var 14) (.o1 .len (.var 13))) (.need [.o2 .le (.lit (.i 0)) (.var 14), .o2 .lt (.var 14) (.o1 .len (.var 13))] (.br (.o1 .not (.o2 .get r11_Cell_t1 (.lit (.i 4)))) (.fin [(2, .lit .nil, .o2 .get r11_Cell_t0 (.lit (.i 0))), (1, .lit (.b false), .o2 .get r11_Cell_t0 (.lit (.i 1)))]) (.need [.o2 .le (.o2 .pl (.o1 .len (.var 15)) (.lit (.i 1))) (.lit (.i 4398046511104))] (.back 0 { n := 14, x := [(0, .var 0), (1, .var 1), (2, .var 2), (3, .var 3), (4, .var 4), (5, .var 5), (6, .var 6), (7, .var 7), (8, .var 8), (9, .var 9), (10, .var 10), (11, .var 11), (12, .var 12), (13, .var 13), (14, .o2 (.add .i64) (.var 14) (.lit (.i 1))), (0, .var 0), (1, .var 1), (2, .var 2), (3, .var 3), (4, .var 4), (5, .var 5), (6, .var 6), (7, .var 7), (8, .var 8), (9, .var 9), (10, .var 10), (11, .var 11), (12, .var 12), (0, .var 0), (1, .var 1), (2, .var 2), (3, .var 3), (4, .var 4), (5, .var 5), (6, .var 6), (7, .var 7), (8, .var 8), (9, .var 9), (10, .var 10), (11, .var 11), (12, .var 12), (15, .o2 .app (.var 15) (.o2 .cons (.o2 .cons (.o2 .get r11_Cell_t1 (.lit (.i 0))) (.o2 .cons (.o2 .get r11_Cell_t1 (.lit (.i 1))) (.o2 .cons (.o2 .get r11_Cell_t1 (.lit (.i 2))) (.o2 .cons (.o2 .get r11_Cell_t1 (.lit (.i 3))) (.lit .nil))))) (.lit .nil)))], id := [(0, 0), (1, 4)] })))) (.fin [(2, .var 15, .o2 .get r11_Cell_t0 (.lit (.i 0))), (1, .lit (.b true), .o2 .get r11_Cell_t0 (.lit (.i 1)))])))) mixed_ hF (conCons (r11_Right_s_c hF.tail.tail.tail.tail.tail.tail.tail.tail) (conCons (r11_Plane_s_c hF.tail) conNil)) (by kernel_rfl) (by kernel_rfl) fun η hneed => by
    have h40 : T 40 = cellD := hF.top
    have h9 : T 9 = P9 := hF.tail.top
    have h20 : T 20 = P20 := hF.tail.tail.tail.tail.tail.tail.tail.tail.tail.tail.tail.top
    have hl : ((η.d 13).len : Int) ≤ 2000000 := of_decide_eq_true (hneed _ (.head _))
    have c40 : T 40 (.cons (η.d 0) (.cons (η.d 1) (.cons (η.d 2) (.cons (η.d 3) (.cons (η.d 4) (.cons (η.d 5) (.cons (η.d 6) (.cons (η.d 7) (.cons (η.d 8) (.cons (η.d 9) (.cons (η.d 10) (.cons (η.d 11) (.cons (η.d 12) (.cons (η.d 13) .nil)))))))))))))) = if (((P20 (.cons (η.d 0) (.cons (η.d 1) (.cons (η.d 2) (.cons (η.d 3) (.cons (η.d 4) (.cons (η.d 5) (.cons (η.d 6) (.cons (η.d 7) (.cons (η.d 8) (.cons (η.d 9) (.cons (η.d 10) (.cons (η.d 11) (.cons (η.d 12) .nil)))))))))))))).get 0).bool && okL (okC (.cons (η.d 0) (.cons (η.d 1) (.cons (η.d 2) (.cons (η.d 3) (.cons (η.d 4) (.cons (η.d 5) (.cons (η.d 6) (.cons (η.d 7) (.cons (η.d 8) (.cons (η.d 9) (.cons (η.d 10) (.cons (η.d 11) (.cons (η.d 12) .nil)))))))))))))) (η.d 13)) = true then .cons (mapL (imC (.cons (η.d 0) (.cons (η.d 1) (.cons (η.d 2) (.cons (η.d 3) (.cons (η.d 4) (.cons (η.d 5) (.cons (η.d 6) (.cons (η.d 7) (.cons (η.d 8) (.cons (η.d 9) (.cons (η.d 10) (.cons (η.d 11) (.cons (η.d 12) .nil)))))))))))))) (η.d 13)) (.cons (.b true) .nil) else .cons .nil (.cons (.b false) .nil) := by rw [h40]; rfl
    refine ⟨fun c0 => ?_, fun c0 => ?_⟩
    · have c0 : (!((T 20 (.cons (η.d 0) (.cons (η.d 1) (.cons (η.d 2) (.cons (η.d 3) (.cons (η.d 4) (.cons (η.d 5) (.cons (η.d 6) (.cons (η.d 7) (.cons (η.d 8) (.cons (η.d 9) (.cons (η.d 10) (.cons (η.d 11) (.cons (η.d 12) .nil)))))))))))))).get 0).bool) = true := c0
      rw [h20, Bool.not_eq_true'] at c0
      intro p hp
      simp only [List.mem_cons, List.not_mem_nil, or_false] at hp
      rcases hp with rfl | rfl
      · show D.nil = (T 40 (.cons (η.d 0) (.cons (η.d 1) (.cons (η.d 2) (.cons (η.d 3) (.cons (η.d 4) (.cons (η.d 5) (.cons (η.d 6) (.cons (η.d 7) (.cons (η.d 8) (.cons (η.d 9) (.cons (η.d 10) (.cons (η.d 11) (.cons (η.d 12) (.cons (η.d 13) .nil))))))))))))))).get 0
        rw [c40, c0]; rfl
      · show false = ((T 40 (.cons (η.d 0) (.cons (η.d 1) (.cons (η.d 2) (.cons (η.d 3) (.cons (η.d 4) (.cons (η.d 5) (.cons (η.d 6) (.cons (η.d 7) (.cons (η.d 8) (.cons (η.d 9) (.cons (η.d 10) (.cons (η.d 11) (.cons (η.d 12) (.cons (η.d 13) .nil))))))))))))))).get 1).bool
        rw [c40, c0]; rfl
    · have c0 : (!((T 20 (.cons (η.d 0) (.cons (η.d 1) (.cons (η.d 2) (.cons (η.d 3) (.cons (η.d 4) (.cons (η.d 5) (.cons (η.d 6) (.cons (η.d 7) (.cons (η.d 8) (.cons (η.d 9) (.cons (η.d 10) (.cons (η.d 11) (.cons (η.d 12) .nil)))))))))))))).get 0).bool) = false := c0
      rw [h20, Bool.not_eq_false'] at c0
      rw [c0, Bool.true_and] at c40
      refine len_loop (η.d 13).len (fun k η' => η'.d 15 = mapL (imC (.cons (η.d 0) (.cons (η.d 1) (.cons (η.d 2) (.cons (η.d 3) (.cons (η.d 4) (.cons (η.d 5) (.cons (η.d 6) (.cons (η.d 7) (.cons (η.d 8) (.cons (η.d 9) (.cons (η.d 10) (.cons (η.d 11) (.cons (η.d 12) .nil)))))))))))))) ((η.d 13).take k) ∧ okL (okC (.cons (η.d 0) (.cons (η.d 1) (.cons (η.d 2) (.cons (η.d 3) (.cons (η.d 4) (.cons (η.d 5) (.cons (η.d 6) (.cons (η.d 7) (.cons (η.d 8) (.cons (η.d 9) (.cons (η.d 10) (.cons (η.d 11) (.cons (η.d 12) .nil)))))))))))))) ((η.d 13).take k) = true) rfl ⟨mapL_zero _, okL_zero _⟩ (fun η' ag => ?_) (fun k η' hk ag i0 j0 => ?_) (fun η' b ag i0 j0 => ?_)
      · show ((η'.d 13).len : Int) = _
        rw [ag.d 13 (by omega)]
      · have eA : T 40 (.cons (η'.d 0) (.cons (η'.d 1) (.cons (η'.d 2) (.cons (η'.d 3) (.cons (η'.d 4) (.cons (η'.d 5) (.cons (η'.d 6) (.cons (η'.d 7) (.cons (η'.d 8) (.cons (η'.d 9) (.cons (η'.d 10) (.cons (η'.d 11) (.cons (η'.d 12) (.cons (η'.d 13) .nil)))))))))))))) = T 40 (.cons (η.d 0) (.cons (η.d 1) (.cons (η.d 2) (.cons (η.d 3) (.cons (η.d 4) (.cons (η.d 5) (.cons (η.d 6) (.cons (η.d 7) (.cons (η.d 8) (.cons (η.d 9) (.cons (η.d 10) (.cons (η.d 11) (.cons (η.d 12) (.cons (η.d 13) .nil)))))))))))))) := by rw [ag.d 0 (by omega), ag.d 1 (by omega), ag.d 2 (by omega), ag.d 3 (by omega), ag.d 4 (by omega), ag.d 5 (by omega), ag.d 6 (by omega), ag.d 7 (by omega), ag.d 8 (by omega), ag.d 9 (by omega), ag.d 10 (by omega), ag.d 11 (by omega), ag.d 12 (by omega), ag.d 13 (by omega)]
        have e9 : T 9 (.cons (η'.d 0) (.cons (η'.d 1) (.cons (η'.d 2) (.cons (η'.d 3) (.cons (η'.d 4) (.cons (η'.d 5) (.cons (η'.d 6) (.cons (η'.d 7) (.cons (η'.d 8) (.cons (η'.d 9) (.cons (η'.d 10) (.cons (η'.d 11) (.cons (η'.d 12) (D.seg 4 ((η'.d 13).get (η'.d 14).int.toNat) 0)))))))))))))) = P9 (D.app (.cons (η.d 0) (.cons (η.d 1) (.cons (η.d 2) (.cons (η.d 3) (.cons (η.d 4) (.cons (η.d 5) (.cons (η.d 6) (.cons (η.d 7) (.cons (η.d 8) (.cons (η.d 9) (.cons (η.d 10) (.cons (η.d 11) (.cons (η.d 12) .nil))))))))))))) (D.seg 4 ((η.d 13).get k) 0)) := by rw [h9, ag.d 0 (by omega), ag.d 1 (by omega), ag.d 2 (by omega), ag.d 3 (by omega), ag.d 4 (by omega), ag.d 5 (by omega), ag.d 6 (by omega), ag.d 7 (by omega), ag.d 8 (by omega), ag.d 9 (by omega), ag.d 10 (by omega), ag.d 11 (by omega), ag.d 12 (by omega), ag.d 13 (by omega), i0]; rfl
        have a13 := ag.d 13 (by omega)
        refine ⟨fun x hx => ?_, fun c1 => ?_, fun c1 => ⟨need_le ?_, ?_⟩⟩
        · simp only [List.mem_cons, List.not_mem_nil, or_false] at hx
          rcases hx with rfl | rfl
          · exact decide_eq_true (show (0 : Int) ≤ (η'.d 14).int by rw [i0]; exact Int.natCast_nonneg k)
          · exact decide_eq_true (show (η'.d 14).int < ((η'.d 13).len : Int) by rw [i0, a13]; exact Int.ofNat_lt.2 hk)
        · have c1 : (!((T 9 (.cons (η'.d 0) (.cons (η'.d 1) (.cons (η'.d 2) (.cons (η'.d 3) (.cons (η'.d 4) (.cons (η'.d 5) (.cons (η'.d 6) (.cons (η'.d 7) (.cons (η'.d 8) (.cons (η'.d 9) (.cons (η'.d 10) (.cons (η'.d 11) (.cons (η'.d 12) (D.seg 4 ((η'.d 13).get (η'.d 14).int.toNat) 0))))))))))))))).get 4).bool) = true := c1
          rw [e9, Bool.not_eq_true'] at c1
          have hn := okL_get (ok := okC (.cons (η.d 0) (.cons (η.d 1) (.cons (η.d 2) (.cons (η.d 3) (.cons (η.d 4) (.cons (η.d 5) (.cons (η.d 6) (.cons (η.d 7) (.cons (η.d 8) (.cons (η.d 9) (.cons (η.d 10) (.cons (η.d 11) (.cons (η.d 12) .nil)))))))))))))) hk c1
          rw [hn] at c40
          intro p hp
          simp only [List.mem_cons, List.not_mem_nil, or_false] at hp
          rcases hp with rfl | rfl
          · show D.nil = (T 40 (.cons (η'.d 0) (.cons (η'.d 1) (.cons (η'.d 2) (.cons (η'.d 3) (.cons (η'.d 4) (.cons (η'.d 5) (.cons (η'.d 6) (.cons (η'.d 7) (.cons (η'.d 8) (.cons (η'.d 9) (.cons (η'.d 10) (.cons (η'.d 11) (.cons (η'.d 12) (.cons (η'.d 13) .nil))))))))))))))).get 0
            rw [eA, c40]; rfl
          · show false = ((T 40 (.cons (η'.d 0) (.cons (η'.d 1) (.cons (η'.d 2) (.cons (η'.d 3) (.cons (η'.d 4) (.cons (η'.d 5) (.cons (η'.d 6) (.cons (η'.d 7) (.cons (η'.d 8) (.cons (η'.d 9) (.cons (η'.d 10) (.cons (η'.d 11) (.cons (η'.d 12) (.cons (η'.d 13) .nil))))))))))))))).get 1).bool
            rw [eA, c40]; rfl
        · show ((η'.d 15).len : Int) + 1 ≤ 4398046511104
          rw [j0.1]
          have := mapL_len (f := imC (.cons (η.d 0) (.cons (η.d 1) (.cons (η.d 2) (.cons (η.d 3) (.cons (η.d 4) (.cons (η.d 5) (.cons (η.d 6) (.cons (η.d 7) (.cons (η.d 8) (.cons (η.d 9) (.cons (η.d 10) (.cons (η.d 11) (.cons (η.d 12) .nil)))))))))))))) (η.d 13) k
          omega
        · have c1 : (!((T 9 (.cons (η'.d 0) (.cons (η'.d 1) (.cons (η'.d 2) (.cons (η'.d 3) (.cons (η'.d 4) (.cons (η'.d 5) (.cons (η'.d 6) (.cons (η'.d 7) (.cons (η'.d 8) (.cons (η'.d 9) (.cons (η'.d 10) (.cons (η'.d 11) (.cons (η'.d 12) (D.seg 4 ((η'.d 13).get (η'.d 14).int.toNat) 0))))))))))))))).get 4).bool) = false := c1
          rw [e9, Bool.not_eq_false'] at c1
          refine ⟨?_, ?_, ?_⟩
          · show D.i (IntKind.i64.wrap ((η'.d 14).int + 1)) = _
            rw [i0]
            show D.i (IntKind.i64.wrap ((k : Int) + 1)) = _
            rw [w64 (by omega) (by omega)]; rfl
          · show (η'.d 15).app (.cons (D.seg 4 (T 9 (.cons (η'.d 0) (.cons (η'.d 1) (.cons (η'.d 2) (.cons (η'.d 3) (.cons (η'.d 4) (.cons (η'.d 5) (.cons (η'.d 6) (.cons (η'.d 7) (.cons (η'.d 8) (.cons (η'.d 9) (.cons (η'.d 10) (.cons (η'.d 11) (.cons (η'.d 12) (D.seg 4 ((η'.d 13).get (η'.d 14).int.toNat) 0))))))))))))))) 0) .nil) = _
            rw [e9, j0.1, mapL_succ hk]; rfl
          · rw [okL_succ hk, j0.2]
            exact c1
      · have eA : T 40 (.cons (η'.d 0) (.cons (η'.d 1) (.cons (η'.d 2) (.cons (η'.d 3) (.cons (η'.d 4) (.cons (η'.d 5) (.cons (η'.d 6) (.cons (η'.d 7) (.cons (η'.d 8) (.cons (η'.d 9) (.cons (η'.d 10) (.cons (η'.d 11) (.cons (η'.d 12) (.cons (η'.d 13) .nil)))))))))))))) = T 40 (.cons (η.d 0) (.cons (η.d 1) (.cons (η.d 2) (.cons (η.d 3) (.cons (η.d 4) (.cons (η.d 5) (.cons (η.d 6) (.cons (η.d 7) (.cons (η.d 8) (.cons (η.d 9) (.cons (η.d 10) (.cons (η.d 11) (.cons (η.d 12) (.cons (η.d 13) .nil)))))))))))))) := by rw [ag.d 0 (by omega), ag.d 1 (by omega), ag.d 2 (by omega), ag.d 3 (by omega), ag.d 4 (by omega), ag.d 5 (by omega), ag.d 6 (by omega), ag.d 7 (by omega), ag.d 8 (by omega), ag.d 9 (by omega), ag.d 10 (by omega), ag.d 11 (by omega), ag.d 12 (by omega), ag.d 13 (by omega)]
        have j1 := j0.1
        have j2 := j0.2
        rw [mapL_take] at j1
        rw [okL_take] at j2
        rw [j2] at c40
        intro p hp
        simp only [List.mem_cons, List.not_mem_nil, or_false] at hp
        rcases hp with rfl | rfl
        · show η'.d 15 = (T 40 (.cons (η'.d 0) (.cons (η'.d 1) (.cons (η'.d 2) (.cons (η'.d 3) (.cons (η'.d 4) (.cons (η'.d 5) (.cons (η'.d 6) (.cons (η'.d 7) (.cons (η'.d 8) (.cons (η'.d 9) (.cons (η'.d 10) (.cons (η'.d 11) (.cons (η'.d 12) (.cons (η'.d 13) .nil))))))))))))))).get 0
          rw [eA, c40, j1]; rfl
        · show true = ((T 40 (.cons (η'.d 0) (.cons (η'.d 1) (.cons (η'.d 2) (.cons (η'.d 3) (.cons (η'.d 4) (.cons (η'.d 5) (.cons (η'.d 6) (.cons (η'.d 7) (.cons (η'.d 8) (.cons (η'.d 9) (.cons (η'.d 10) (.cons (η'.d 11) (.cons (η'.d 12) (.cons (η'.d 13) .nil))))))))))))))).get 1).bool
          rw [eA, c40]; rfl
end Go.Proofs.Ytjeenfnfkndgaaa
