/- The evaluator: a contract said in other words; results as named functions of the arguments. -/
import Derived.Test.YtjeenfnfkndgaaaZ4
namespace Go.Sz
open Go Go.RowKit
noncomputable section
abbrev XP := List (X × X)
def app2 : Option XP → Option XP → Option XP
  | some a, some b => some (a ++ b)
  | _, _ => none
def Sc.prs : Sc → Sc → Option XP
  | .int k x, .int k' y => if k = k' then some [(x, y)] else none
  | .bool x, .bool y => some [(x, y)]
  | .str x, .str y => some [(x, y)]
  | .lst e x, .lst e' y => if e = e' then some [(x, y)] else none
  | a, b => if a = b then some [] else none
def prsL : List Sc → List Sc → Option XP
  | [], [] => some []
  | a :: l, b :: m => app2 (a.prs b) (prsL l m)
  | _, _ => none
def S1.prs : S1 → S1 → Option XP
  | .one a, .one b => a.prs b
  | .agg l, .agg m => prsL l m
  | _, _ => none
def prsT : List S1 → List S1 → Option XP
  | [], [] => some []
  | a :: l, b :: m => app2 (a.prs b) (prsT l m)
  | _, _ => none
def SV.prs : SV → SV → Option XP
  | .v a, .v b => a.prs b
  | .tup l, .tup m => prsT l m
  | _, _ => none
def Blk.prs : Blk → Blk → Option XP
  | .box l, .box m => prsL l m
  | .row t e x, .row t' e' y => if t = t' ∧ e = e' then some [(x, y)] else none
  | .froz e x, .froz e' y => if e = e' then some [(x, y)] else none
  | _, _ => none
def OB.prs : Option Blk → Option Blk → Option XP
  | none, none => some []
  | some a, some b => a.prs b
  | _, _ => none
def prsB : List Blk → List Blk → Option XP
  | [], [] => some []
  | a :: l, b :: m => app2 (a.prs b) (prsB l m)
  | _, _ => none
def prsO : List (Option Blk) → List (Option Blk) → Option XP
  | [], [] => some []
  | a :: l, b :: m => app2 (OB.prs a b) (prsO l m)
  | _, _ => none
def Con.prs (c c' : Con) : Option XP := if c.f = c'.f ∧ c.pat = c'.pat ∧ c.hp = c'.hp then app2 (c.res.prs c'.res) (app2 (prsB c.nw c'.nw) (prsO c.post c'.post)) else none
section
variable {P : Program} {T : Tab} {η : Env} {ρ : Plc} {w : World} {Z : Nat → Prop}
theorem app2_some {a b : Option XP} {q : XP} (h : app2 a b = some q) : ∃ x y, a = some x ∧ b = some y ∧ q = x ++ y := by
  cases a <;> cases b <;> simp [app2] at h
  exact ⟨_, _, rfl, rfl, h.symm⟩
variable (T η) in
def XP.ok (q : XP) : Prop := ∀ p ∈ q, p.1.d T η = p.2.d T η
theorem XP.ok_app {a b : XP} (h : XP.ok T η (a ++ b)) : XP.ok T η a ∧ XP.ok T η b := ⟨fun p hp => h p (List.mem_append_left _ hp), fun p hp => h p (List.mem_append_right _ hp)⟩
theorem Sc.prs_V {a b : Sc} {q : XP} {v : Value} (h : a.prs b = some q) (hq : XP.ok T η q) (hv : a.V T η ρ w Z v) : b.V T η ρ w Z v := by
  unfold Sc.prs at h
  split at h
  · split at h
    · rename_i hk; subst hk; simp at h; subst h
      have := hq _ (.head _); simp only [Sc.V] at hv ⊢; rw [← this]; exact hv
    · cases h
  · simp at h; subst h
    have := hq _ (.head _); simp only [Sc.V] at hv ⊢; rw [← this]; exact hv
  · simp at h; subst h
    have := hq _ (.head _); simp only [Sc.V] at hv ⊢; rw [← this]; exact hv
  · split at h
    · rename_i hk; subst hk; simp at h; subst h
      have := hq _ (.head _); simp only [Sc.V] at hv ⊢; rw [← this]; exact hv
    · cases h
  · split at h
    · rename_i hk; rw [← hk]; exact hv
    · cases h
theorem prsL_V : ∀ {l m : List Sc} {q : XP} {vs : List Value}, prsL l m = some q → XP.ok T η q → VL T η ρ w Z l vs → VL T η ρ w Z m vs
  | [], [], _, _, _, _, hv => hv
  | a :: l, b :: m, q, vs, h, hq, hv => by
    obtain ⟨x, y, h1, h2, rfl⟩ := app2_some h
    obtain ⟨v, us, rfl, v1, v2⟩ := hv
    exact ⟨v, us, rfl, Sc.prs_V h1 (XP.ok_app hq).1 v1, prsL_V h2 (XP.ok_app hq).2 v2⟩
  | [], _ :: _, _, _, h, _, _ => by simp [prsL] at h
  | _ :: _, [], _, _, h, _, _ => by simp [prsL] at h
theorem S1.prs_V {a b : S1} {q : XP} {v : Value} (h : a.prs b = some q) (hq : XP.ok T η q) (hv : a.V T η ρ w Z v) : b.V T η ρ w Z v := by
  cases a <;> cases b <;> simp only [S1.prs] at h
  · exact Sc.prs_V h hq hv
  · cases h
  · cases h
  · obtain ⟨vs, rfl, h1⟩ := hv; exact ⟨vs, rfl, prsL_V h hq h1⟩
theorem prsT_V : ∀ {l m : List S1} {q : XP} {vs : List Value}, prsT l m = some q → XP.ok T η q → VT T η ρ w Z l vs → VT T η ρ w Z m vs
  | [], [], _, _, _, _, hv => hv
  | a :: l, b :: m, q, vs, h, hq, hv => by
    obtain ⟨x, y, h1, h2, rfl⟩ := app2_some h
    obtain ⟨v, us, rfl, v1, v2⟩ := hv
    exact ⟨v, us, rfl, S1.prs_V h1 (XP.ok_app hq).1 v1, prsT_V h2 (XP.ok_app hq).2 v2⟩
  | [], _ :: _, _, _, h, _, _ => by simp [prsT] at h
  | _ :: _, [], _, _, h, _, _ => by simp [prsT] at h
theorem SV.prs_V {a b : SV} {q : XP} {v : Value} (h : a.prs b = some q) (hq : XP.ok T η q) (hv : a.V T η ρ w Z v) : b.V T η ρ w Z v := by
  cases a <;> cases b <;> simp only [SV.prs] at h
  · exact S1.prs_V h hq hv
  · cases h
  · cases h
  · obtain ⟨vs, rfl, h1⟩ := hv; exact ⟨vs, rfl, prsT_V h hq h1⟩
theorem Blk.prs_V {a b : Blk} {q : XP} {p : Pl} (h : a.prs b = some q) (hq : XP.ok T η q) (hv : a.V T η ρ w Z p) : b.V T η ρ w Z p := by
  cases a <;> cases b <;> simp only [Blk.prs] at h
  case box.box => obtain ⟨h1, h2, vs, h3, h4⟩ := hv; exact ⟨h1, h2, vs, prsL_V h hq h3, h4⟩
  case row.row =>
    split at h
    · rename_i hk; obtain ⟨rfl, rfl⟩ := hk; simp at h; subst h
      have := hq _ (.head _); simp only [Blk.V] at hv ⊢; rw [← this]; exact hv
    · cases h
  case froz.froz =>
    split at h
    · rename_i hk; subst hk; simp at h; subst h
      have := hq _ (.head _); simp only [Blk.V] at hv ⊢; rw [← this]; exact hv
    · cases h
  all_goals cases h
theorem Blk.prs_mut {a b : Blk} {q : XP} (h : a.prs b = some q) : a.mut = b.mut := by
  cases a <;> cases b <;> simp only [Blk.prs] at h <;> first | rfl | cases h
theorem prsB_len : ∀ {l m : List Blk} {q : XP}, prsB l m = some q → l.length = m.length
  | [], [], _, _ => rfl
  | a :: l, b :: m, q, h => by
    obtain ⟨x, y, h1, h2, rfl⟩ := app2_some h
    simp [prsB_len h2]
  | [], _ :: _, _, h => by simp [prsB] at h
  | _ :: _, [], _, h => by simp [prsB] at h
theorem prsB_get : ∀ {l m : List Blk} {q : XP}, prsB l m = some q → XP.ok T η q → ∀ {k : Nat} {b : Blk}, m[k]? = some b → ∃ a r, l[k]? = some a ∧ a.prs b = some r ∧ XP.ok T η r
  | [], [], _, _, _, k, b, hb => by simp at hb
  | a :: l, b :: m, q, h, hq, k, d, hb => by
    obtain ⟨x, y, h1, h2, rfl⟩ := app2_some h
    cases k with
    | zero => simp at hb; subst hb; exact ⟨a, x, rfl, h1, (XP.ok_app hq).1⟩
    | succ k => simpa using prsB_get h2 (XP.ok_app hq).2 (k := k) (by simpa using hb)
  | [], _ :: _, _, h, _, _, _, _ => by simp [prsB] at h
  | _ :: _, [], _, h, _, _, _, _ => by simp [prsB] at h
theorem prsO_get : ∀ {l m : List (Option Blk)} {q : XP}, prsO l m = some q → XP.ok T η q → l.length = m.length ∧ ∀ {k : Nat} {a b : Option Blk}, l[k]? = some a → m[k]? = some b → ∃ r, OB.prs a b = some r ∧ XP.ok T η r
  | [], [], _, _, _ => ⟨rfl, fun ha => by simp at ha⟩
  | a :: l, b :: m, q, h, hq => by
    obtain ⟨x, y, h1, h2, rfl⟩ := app2_some h
    obtain ⟨g1, g2⟩ := prsO_get h2 (XP.ok_app hq).2
    refine ⟨by simp [g1], fun {k a' b'} ha hb => ?_⟩
    cases k with
    | zero => simp at ha hb; subst ha hb; exact ⟨x, h1, (XP.ok_app hq).1⟩
    | succ k => exact g2 (k := k) (by simpa using ha) (by simpa using hb)
  | [], _ :: _, _, h, _ => by simp [prsO] at h
  | _ :: _, [], _, h, _ => by simp [prsO] at h
/-- THE SAME CONTRACT IN OTHER WORDS -/
theorem con_eq {c c' : Con} {q : XP} (h : c.Ok P T) (hp : c.prs c' = some q) (hn : ∀ η, (∀ x ∈ c'.need, (x.d T η).bool = true) → (∀ x ∈ c.need, (x.d T η).bool = true) ∧ XP.ok T η q) : c'.Ok P T := by
  unfold Con.prs at hp
  split at hp
  · rename_i hc
    obtain ⟨e1, e2, e3⟩ := hc
    obtain ⟨q1, q2, p1, p2, rfl⟩ := app2_some hp
    obtain ⟨q3, q4, p3, p4, rfl⟩ := app2_some p2
    intro η ρ w Z vs hmem hargs hneed
    obtain ⟨n1, n2⟩ := hn η hneed
    have o1 := (XP.ok_app n2).1
    have o2 := (XP.ok_app (XP.ok_app n2).2).1
    have o3 := (XP.ok_app (XP.ok_app n2).2).2
    rw [← e1]
    refine (h η ρ w Z vs (by rw [e3]; exact hmem) (by rw [e2]; exact hargs) n1).mono ?_
    rintro e w' ⟨v, ρ', Z', rfl, d⟩
    refine ⟨v, ρ', Z', rfl, ?_⟩
    rw [← e3]
    have hl := prsB_len p3
    obtain ⟨hpl, hpg⟩ := prsO_get p4 o3
    have back : ∀ {id : Nat} {b : Option Blk}, (id, b) ∈ idxW 0 c'.post → ∃ a r, (id, a) ∈ idxW 0 c.post ∧ OB.prs a b = some r ∧ XP.ok T η r := fun {id b} hb => by
      obtain ⟨-, hb⟩ := mem_idxW.1 hb
      have hlt := (List.getElem?_eq_some_iff.1 hb).1
      have ha : c.post[id - 0]? = some (c.post[id - 0]'(by omega)) := List.getElem?_eq_getElem _
      obtain ⟨r, r1, r2⟩ := hpg ha hb
      exact ⟨_, r, mem_idxW.2 ⟨Nat.zero_le _, ha⟩, r1, r2⟩
    have forth : ∀ {id : Nat} {a : Option Blk}, (id, a) ∈ idxW 0 c.post → ∃ b r, (id, b) ∈ idxW 0 c'.post ∧ OB.prs a b = some r := fun {id a} ha => by
      obtain ⟨-, ha⟩ := mem_idxW.1 ha
      have hlt := (List.getElem?_eq_some_iff.1 ha).1
      have hb : c'.post[id - 0]? = some (c'.post[id - 0]'(by omega)) := List.getElem?_eq_getElem _
      obtain ⟨r, r1, -⟩ := hpg ha hb
      exact ⟨_, r, mem_idxW.2 ⟨Nat.zero_le _, hb⟩, r1⟩
    exact {
      os := d.os, tape := d.tape, output := d.output, size := d.size
      old := fun id hid => d.old id (by show _ ∨ _ + c.nw.length ≤ _; rw [hl]; exact hid)
      val := SV.prs_V p1 o1 d.val
      other := fun g hg hq => d.other g hg fun ⟨id, a⟩ hx => by
        obtain ⟨b, r, hb, -⟩ := forth hx
        exact hq (id, b) hb
      wr := fun id b hb => by
        obtain ⟨a, r, ha, h1, h2⟩ := back hb
        cases a with
        | none => simp [OB.prs] at h1
        | some a => exact Blk.prs_V h1 h2 (d.wr id a ha)
      nw := fun k b hb => by
        obtain ⟨a, r, ha, h1, h2⟩ := prsB_get p3 o2 hb
        exact Blk.prs_V h1 h2 (d.nw k a ha)
      nwp := fun k b hb hm g hg => by
        obtain ⟨a, r, ha, h1, h2⟩ := prsB_get p3 o2 hb
        obtain ⟨g1, g2, g3⟩ := d.nwp k a ha (by rw [Blk.prs_mut h1]; exact hm) g hg
        refine ⟨g1, g2, g3.imp_right fun ⟨id, h3, h4⟩ => ?_⟩
        obtain ⟨b', r', hb', h5⟩ := forth h3
        cases b' with
        | none => exact ⟨id, hb', h4⟩
        | some _ => simp [OB.prs] at h5
      nwi := fun k l b b' g hb hb' hm hm' hg hg' => by
        obtain ⟨a, r, ha, h1, -⟩ := prsB_get p3 o2 hb
        obtain ⟨a', r', ha', h1', -⟩ := prsB_get p3 o2 hb'
        exact d.nwi k l a a' g ha ha' (by rw [Blk.prs_mut h1]; exact hm) (by rw [Blk.prs_mut h1']; exact hm') hg hg'
      zm := d.zm
      zlt := d.zlt
      zn := fun g hg => by
        rcases d.zn g hg with h1 | h1 | ⟨⟨id, a⟩, h1, h2, h3⟩
        · exact .inl h1
        · exact .inr (.inl h1)
        · obtain ⟨b, r, hb, h5⟩ := forth h1
          refine .inr (.inr ⟨_, hb, fun b' hb' => ?_, h3⟩)
          simp only at hb'
          subst hb'
          cases a with
          | none => simp [OB.prs] at h5
          | some a => rw [← Blk.prs_mut h5]; exact h2 a rfl }
  · cases hp
/- named results -/
def Sc.xl : Sc → List X
  | .int _ x | .bool x | .str x | .lst _ x => [x]
  | _ => []
def SV.xl : SV → List X
  | .v a => a.cells.flatMap Sc.xl
  | .tup l => l.flatMap fun a => a.cells.flatMap Sc.xl
def Blk.xl : Blk → List X
  | .box l => l.flatMap Sc.xl
  | .row _ _ x | .froz _ x => [x]
def Con.xl (c : Con) : List X := c.res.xl ++ c.nw.flatMap Blk.xl ++ c.post.flatMap fun | some b => b.xl | none => []
def argX : Nat → Nat → X
  | 0, _ => .lit .nil
  | n + 1, k => .o2 .cons (.var k) (argX n (k + 1))
def nmX (f nv i : Nat) : X := .o2 .get (.fn f (argX nv 0)) (.lit (.i (i : Int)))
def Sc.nm (f nv : Nat) (i : Nat) : Sc → Sc × Nat
  | .int k _ => (.int k (nmX f nv i), i + 1)
  | .bool _ => (.bool (nmX f nv i), i + 1)
  | .str _ => (.str (nmX f nv i), i + 1)
  | .lst e _ => (.lst e (nmX f nv i), i + 1)
  | c => (c, i)
def nmL (f nv : Nat) : Nat → List Sc → List Sc × Nat
  | i, [] => ([], i)
  | i, c :: l => let q := c.nm f nv i; let r := nmL f nv q.2 l; (q.1 :: r.1, r.2)
def S1.nm (f nv : Nat) (i : Nat) : S1 → S1 × Nat
  | .one c => let q := c.nm f nv i; (.one q.1, q.2)
  | .agg l => let q := nmL f nv i l; (.agg q.1, q.2)
def nmT (f nv : Nat) : Nat → List S1 → List S1 × Nat
  | i, [] => ([], i)
  | i, c :: l => let q := c.nm f nv i; let r := nmT f nv q.2 l; (q.1 :: r.1, r.2)
def SV.nm (f nv : Nat) (i : Nat) : SV → SV × Nat
  | .v a => let q := a.nm f nv i; (.v q.1, q.2)
  | .tup l => let q := nmT f nv i l; (.tup q.1, q.2)
def Blk.nm (f nv : Nat) (i : Nat) : Blk → Blk × Nat
  | .box l => let q := nmL f nv i l; (.box q.1, q.2)
  | .row t e _ => (.row t e (nmX f nv i), i + 1)
  | .froz e _ => (.froz e (nmX f nv i), i + 1)
def nmB (f nv : Nat) : Nat → List Blk → List Blk × Nat
  | i, [] => ([], i)
  | i, c :: l => let q := c.nm f nv i; let r := nmB f nv q.2 l; (q.1 :: r.1, r.2)
def nmO (f nv : Nat) : Nat → List (Option Blk) → List (Option Blk)
  | _, [] => []
  | i, none :: l => none :: nmO f nv i l
  | i, some b :: l => let q := b.nm f nv i; some q.1 :: nmO f nv q.2 l
/-- the results as one function of all variables -/
def Con.nm (f nv : Nat) (c : Con) : Con := let q := c.res.nm f nv 0; let r := nmB f nv q.2 c.nw; { c with res := q.1, nw := r.1, post := nmO f nv r.2 c.post }
def X.fns (F : Fs) : X → Bool
  | .lit _ | .var _ => true
  | .o1 _ a => a.fns F
  | .o2 _ a b => a.fns F && b.fns F
  | .o3 _ a b c => a.fns F && b.fns F && c.fns F
  | .fn f a => F.any (·.1 == f) && a.fns F
def tabF (F : Fs) : Tab := fun k => match F.find? (·.1 == k) with | some q => q.2 | none => fun _ => .nil
def envD (d : D) : Env := ⟨fun j => d.get j, fun _ => ⟨.bool true, rfl⟩⟩
/- values as the kernel reckons them quickly -/
def D.getR (d : D) : Nat → D := D.rec (motive := fun _ => Nat → D) (fun _ _ => .nil) (fun _ _ => .nil) (fun _ => .nil) (fun a _ _ ih k => Nat.rec (motive := fun _ => D) a (fun m _ => ih m) k) d
theorem getR_eq : ∀ (d : D) (k : Nat), d.getR k = d.get k := by
  intro d
  induction d with
  | cons a t _ ih =>
    intro k
    cases k with
    | zero => rfl
    | succ k => exact ih k
  | _ => intro k; rfl
def iltR (a b : Int) : Bool := Int.casesOn a (fun m => Int.casesOn b (fun n => Nat.blt m n) (fun _ => false)) (fun m => Int.casesOn b (fun _ => true) (fun n => Nat.blt n m))
def ieqR (a b : Int) : Bool := Int.casesOn a (fun m => Int.casesOn b (fun n => Nat.beq m n) (fun _ => false)) (fun m => Int.casesOn b (fun _ => false) (fun n => Nat.beq m n))
theorem blt_iff {m n : Nat} : Nat.blt m n = decide (m < n) := by
  simp only [Nat.blt]
  by_cases h : m < n
  · rw [decide_eq_true h, Nat.ble_eq]; exact h
  · rw [decide_eq_false h]; exact Bool.eq_false_iff.2 fun h' => h (by rw [Nat.ble_eq] at h'; exact h')
theorem iltR_eq (a b : Int) : iltR a b = decide (a < b) := by
  cases a with
  | ofNat m => cases b with
    | ofNat n => show Nat.blt m n = _; rw [blt_iff]; apply decide_eq_decide.2; simp only [Int.ofNat_eq_natCast]; omega
    | negSucc n => show false = _; symm; apply decide_eq_false; simp only [Int.ofNat_eq_natCast]; omega
  | negSucc m => cases b with
    | ofNat n => show true = _; symm; apply decide_eq_true; simp only [Int.ofNat_eq_natCast]; omega
    | negSucc n => show Nat.blt n m = _; rw [blt_iff]; apply decide_eq_decide.2; omega
theorem beq_iff' {m n : Nat} : Nat.beq m n = decide (m = n) := by
  by_cases h : m = n
  · rw [decide_eq_true h, Nat.beq_eq]; exact h
  · rw [decide_eq_false h]; exact Bool.eq_false_iff.2 fun h' => h (Nat.eq_of_beq_eq_true h')
theorem ieqR_eq (a b : Int) : ieqR a b = (a == b) := by
  rw [show (a == b) = decide (a = b) from rfl]
  cases a with
  | ofNat m => cases b with
    | ofNat n => show Nat.beq m n = _; rw [beq_iff']; apply decide_eq_decide.2; simp only [Int.ofNat_eq_natCast]; omega
    | negSucc n => show false = _; symm; apply decide_eq_false; intro h; cases h
  | negSucc m => cases b with
    | ofNat n => show false = _; symm; apply decide_eq_false; intro h; cases h
    | negSucc n => show Nat.beq m n = _; rw [beq_iff']; apply decide_eq_decide.2; simp
def den2R (o : O2) (a b : D) : D := O2.casesOn (motive := fun _ => D) o (fun k => den2 (.add k) a b) (fun k => den2 (.sub k) a b) (fun k => den2 (.mul k) a b) (fun k => den2 (.quo k) a b) (den2 .rem a b) (fun k => den2 (.band k) a b) (fun k => den2 (.bor k) a b) (fun k => den2 (.bxor k) a b) (fun k => den2 (.bandn k) a b) (fun k => den2 (.shl k) a b) (den2 .shr a b)
  (.b (iltR a.int b.int)) (.b (!(iltR b.int a.int))) (.b (ieqR a.int b.int)) (den2 .eqb a b) (den2 .eqd a b) (den2 .mn a b) (den2 .mx a b)
  (.b (cond a.bool b.bool false)) (.b (cond a.bool true b.bool)) (.cons a b) (a.getR b.int.toNat) (den2 .app a b) (den2 .take a b) (den2 .drop a b) (den2 .pl a b) (den2 .mi a b) (den2 .rep a b)
theorem den2R_eq (o : O2) (a b : D) : den2R o a b = den2 o a b := by
  cases o
  case lt => show D.b (iltR _ _) = _; rw [iltR_eq]; rfl
  case le => show D.b (!(iltR _ _)) = _; rw [iltR_eq]; simp only [den2]; congr 1; by_cases h : a.int ≤ b.int <;> simp [h] <;> omega
  case eq => show D.b (ieqR _ _) = _; rw [ieqR_eq]; rfl
  case and => show D.b (cond _ _ _) = _; simp only [den2]; cases a.bool <;> rfl
  case or => show D.b (cond _ _ _) = _; simp only [den2]; cases a.bool <;> rfl
  case get => exact getR_eq _ _
  all_goals rfl
def den3R (o : O3) (a b c : D) : D := O3.casesOn (motive := fun _ => D) o (cond a.bool b c) (den3 .set a b c)
theorem den3R_eq (o : O3) (a b c : D) : den3R o a b c = den3 o a b c := by
  cases o
  case ite => show cond _ _ _ = _; simp only [den3]; cases a.bool <;> rfl
  case set => rfl
def X.dR (T : Tab) (η : Nat → D) (x : X) : D := X.rec (motive := fun _ => D) (fun d => d) (fun j => η j) (fun o _ a => den1 o a) (fun o _ _ a b => den2R o a b) (fun o _ _ _ a b c => den3R o a b c) (fun f _ a => T f a) x
theorem dR_eq (T : Tab) (η : Env) : ∀ x : X, x.dR T η.d = x.d T η := by
  intro x
  induction x with
  | lit d => rfl
  | var j => rfl
  | o1 o a ih => show den1 o (a.dR T η.d) = _; rw [ih]; rfl
  | o2 o a b iha ihb => show den2R o (a.dR T η.d) (b.dR T η.d) = _; rw [iha, ihb, den2R_eq]; rfl
  | o3 o a b c iha ihb ihc => show den3R o (a.dR T η.d) (b.dR T η.d) (c.dR T η.d) = _; rw [iha, ihb, ihc, den3R_eq]; rfl
  | fn f a ih => show T f (a.dR T η.d) = _; rw [ih]; rfl
/-- a list by values -/
def ofR (l : List X) (f : X → D) : D := List.rec (motive := fun _ => D) .nil (fun x _ d => .cons (f x) d) l
theorem ofR_eq (f : X → D) : ∀ l : List X, ofR l f = D.of (l.map f)
  | [] => rfl
  | x :: l => by show D.cons (f x) (ofR l f) = _; rw [ofR_eq f l]; rfl
/-- a named function: what these expressions are at the arguments -/
def fnOf (F : Fs) (xs : List X) : D → D := fun d => ofR xs fun x => x.dR (tabF F) d.getR
theorem fnOf_eq (F : Fs) (xs : List X) (d : D) : fnOf F xs d = D.of (xs.map fun x => x.d (tabF F) (envD d)) := by
  have h : d.getR = (envD d).d := funext fun k => getR_eq d k
  unfold fnOf
  rw [ofR_eq, h]
  congr 2
  funext x
  exact dR_eq _ _ x
theorem tabF_eq {F : Fs} (hF : F.ok T) {f : Nat} (h : F.any (·.1 == f) = true) : T f = tabF F f := by
  unfold tabF
  split
  · rename_i q hq
    have h1 := List.mem_of_find?_eq_some hq
    have h2 := List.find?_some hq
    simp only [beq_iff_eq] at h2
    rw [← h2]; exact hF q h1
  · rename_i hq
    rw [List.find?_eq_none] at hq
    obtain ⟨q, h1, h2⟩ := List.any_eq_true.1 h
    exact absurd h2 (hq q h1)
theorem fns_d {F : Fs} (hF : F.ok T) {n : Nat} {η η' : Env} (hη : ∀ j, j < n → η'.d j = η.d j) : ∀ {x : X}, x.fns F = true → x.low n = true → x.d (tabF F) η' = x.d T η := by
  intro x
  induction x with
  | lit d => intro _ _; rfl
  | var j => intro _ h; exact hη j (by simpa [X.low] using h)
  | o1 o a ih => intro h h'; simp only [X.d]; rw [ih h h']
  | o2 o a b iha ihb => intro h h'; simp only [X.fns, X.low, Bool.and_eq_true] at h h'; simp only [X.d]; rw [iha h.1 h'.1, ihb h.2 h'.2]
  | o3 o a b c iha ihb ihc => intro h h'; simp only [X.fns, X.low, Bool.and_eq_true] at h h'; simp only [X.d]; rw [iha h.1.1 h'.1.1, ihb h.1.2 h'.1.2, ihc h.2 h'.2]
  | fn f a ih => intro h h'; simp only [X.fns, Bool.and_eq_true] at h; simp only [X.d]; rw [ih h.2 h', ← tabF_eq hF h.1]
theorem argX_get (T : Tab) (η : Env) : ∀ (n k j : Nat), j < n → ((argX n k).d T η).get j = η.d (k + j)
  | 0, _, _, h => by omega
  | n + 1, k, 0, _ => rfl
  | n + 1, k, j + 1, h => by
    show ((argX n (k + 1)).d T η).get j = _
    rw [argX_get T η n (k + 1) j (by omega)]
    congr 1; omega
theorem of_get : ∀ (l : List D) (i : Nat) (d : D), l[i]? = some d → (D.of l).get i = d
  | [], i, d, h => by simp at h
  | a :: l, 0, d, h => by simp at h; exact h
  | a :: l, i + 1, d, h => of_get l i d (by simpa using h)
theorem nm_d {F : Fs} (hF : F.ok T) {f nv : Nat} {xs : List X} (hT : T f = fnOf F xs) (h : ∀ x ∈ xs, x.fns F = true ∧ x.low nv = true) {i : Nat} {x : X} (hi : xs[i]? = some x) : x.d T η = (nmX f nv i).d T η := by
  show _ = D.get (T f ((argX nv 0).d T η)) (D.int (.i (i : Int))).toNat
  rw [hT, fnOf_eq]
  have hm : (xs.map fun x => x.d (tabF F) (envD ((argX nv 0).d T η)))[i]? = some (x.d (tabF F) (envD ((argX nv 0).d T η))) := by rw [List.getElem?_map, hi]; rfl
  have := of_get _ _ _ hm
  simp only [D.int, Int.toNat_natCast]
  show _ = (D.of _).get i
  rw [this]
  obtain ⟨h1, h2⟩ := h x (List.mem_of_getElem? hi)
  exact (fns_d hF (fun j hj => by
    show ((argX nv 0).d T η).get j = _
    rw [argX_get T η nv 0 j hj, Nat.zero_add]) h1 h2).symm
def nmPairs (f nv : Nat) : Nat → List X → XP
  | _, [] => []
  | i, x :: l => (x, nmX f nv i) :: nmPairs f nv (i + 1) l
theorem nmPairs_mem {f nv : Nat} : ∀ {l : List X} {i : Nat} {p : X × X}, p ∈ nmPairs f nv i l → ∃ j, l[j]? = some p.1 ∧ p.2 = nmX f nv (i + j)
  | [], _, _, h => by cases h
  | x :: l, i, p, h => by
    rcases List.mem_cons.1 h with rfl | h
    · exact ⟨0, rfl, rfl⟩
    · obtain ⟨j, h1, h2⟩ := nmPairs_mem h
      exact ⟨j + 1, by simpa using h1, by rw [h2, show i + 1 + j = i + (j + 1) by omega]⟩
def nmOk (F : Fs) (f nv : Nat) (c c' : Con) (xs : List X) : Bool := decide (c.prs c' = some (nmPairs f nv 0 xs)) && decide (c.need = c'.need) && xs.all fun x => x.fns F && x.low nv
/-- A CONTRACT WITH NAMED RESULTS -/
theorem con_nm {F : Fs} {f nv : Nat} {c c' : Con} {xs : List X} (hF : F.ok T) (h : c.Ok P T) (hT : T f = fnOf F xs) (hc : nmOk F f nv c c' xs = true) : c'.Ok P T := by
  simp only [nmOk, Bool.and_eq_true, decide_eq_true_eq, List.all_eq_true] at hc
  obtain ⟨⟨h1, h2⟩, h3⟩ := hc
  refine con_eq h h1 fun η hn => ⟨by rw [h2]; exact hn, fun p hp => ?_⟩
  obtain ⟨j, g1, g2⟩ := nmPairs_mem hp
  rw [g2, Nat.zero_add]
  exact nm_d hF hT (fun x hx => h3 x hx) g1
theorem Fs.ok.tail {q : Nat × (D → D)} {F : Fs} (h : Fs.ok (q :: F) T) : F.ok T := fun p hp => h p (List.mem_cons_of_mem _ hp)
theorem Fs.ok.top {q : Nat × (D → D)} {F : Fs} (h : Fs.ok (q :: F) T) : T q.1 = q.2 := h q (.head _)
end
end
end Go.Sz
